/-
  What is known from call to call, of quotients with ends: the program's and the document's.
-/
import Derived.Test.YtmnlggmdomcajaaGreatY2a
import Derived.Test.YtmnlggmdomcajaaGreatY2b
import Derived.Test.YtmnlggmdomcajaaGreatY3
namespace Go.Proofs.YtmnlggmdomcajaaGreat
open Go.RowKit Lm
set_option linter.unusedSimpArgs false
set_option linter.unusedVariables false
set_option maxRecDepth 100000

theorem isZ {W : World} {p : Option Addr} {d : Nat} (h : SlAt W p d []) : Is W 0 (.agg #[.bool false, .slice p 0 d]) 0 0 := ⟨false, p, d, [], rfl, h, fun _ _ => Nat.zero_le _, Nat.le_refl _, rfl, rfl⟩

set_option maxHeartbeats 3200000 in
theorem sameZ_any (w : World) (p1 p2 p3 p4 : Option Addr) (d1 d2 d3 d4 : Nat) (h1 : SlAt w p1 d1 []) (h2 : SlAt w p2 d2 []) (h3 : SlAt w p3 d3 []) (h4 : SlAt w p4 d4 []) :
    Calls Tryz.prog 48 #[.agg #[.bool false, .slice p1 0 d1, .bool false, .slice p2 0 d2], .agg #[.bool false, .slice p3 0 d3, .bool false, .slice p4 0 d4]] w fun e w' => e = .returned (.bool true) ∧ Below w.heap.size w w' := by
  have hW0 : Below w.heap.size w ((w.alloc (.cells #[.bool false, .slice p1 0 d1, .bool false, .slice p2 0 d2] 26)).alloc (.cells #[.bool false, .slice p3 0 d3, .bool false, .slice p4 0 d4] 26)) := (by repeat (first | exact Below.refl _ _ | refine Below.alloc ?_ ?_ _ | refine Below.setCell ?_ ?_ _ | refine Below.drew ?_ | refine below_drewN ?_ _ | (· simp) | omega | (· simp; omega) | exact Below.size (by assumption) | assumption | refine below_call ?_ (by assumption) ?_))
  have bA : Box4 ((w.alloc (.cells #[.bool false, .slice p1 0 d1, .bool false, .slice p2 0 d2] 26)).alloc (.cells #[.bool false, .slice p3 0 d3, .bool false, .slice p4 0 d4] 26)) w.heap.size (.bool false) (.slice p1 0 d1) (.bool false) (.slice p2 0 d2) := (Box4.new _ _ _ _ _ _ rfl).alloc _
  have bB : Box4 ((w.alloc (.cells #[.bool false, .slice p1 0 d1, .bool false, .slice p2 0 d2] 26)).alloc (.cells #[.bool false, .slice p3 0 d3, .bool false, .slice p4 0 d4] 26)) (w.heap.size + 1) (.bool false) (.slice p3 0 d3) (.bool false) (.slice p4 0 d4) := Box4.new _ _ _ _ _ _ (by simp)
  have I1 := hid (isZ (h1.below hW0))
  have I2 := hid (isZ (h2.below hW0))
  have I3 := hid (isZ (h3.below hW0))
  have I4 := hid (isZ (h4.below hW0))
  clear h1 h2 h3 h4
  go_enter Tryz.func48, Tryz.ntmps48
  obtain ⟨x0, x1, x2, x3⟩ := bA.c
  obtain ⟨y0, y1, y2, y3⟩ := bB.c
  have lA := bA.lt
  have lB := bB.lt
  go_wp2_with fail
  clear x0 x1 x2 x3 y0 y1 y2 y3 lA lB
  generalize (w.alloc (.cells #[.bool false, .slice p1 0 d1, .bool false, .slice p2 0 d2] 26)).alloc (.cells #[.bool false, .slice p3 0 d3, .bool false, .slice p4 0 d4] 26) = W0 at *
  refine (same_num _ _ _ 0 0 0 0 0 0 I1.out I3.out).mono ?_
  rintro e w1 ⟨rfl, hb1⟩
  have hW1 := below_call hW0 hb1 hW0.size
  obtain ⟨x0, x1, x2, x3, y0, y1, y2, y3⟩ := keep44 bA bB hb1
  have lA := (bA.keep hb1).lt
  have lB := (bB.keep hb1).lt
  have J2 := hid (I2.out.below hb1)
  have J4 := hid (I4.out.below hb1)
  clear hb1 bA bB hW0 I1 I2 I3 I4
  rw [decide_eq_true (rfl : (0 : Int) = 0)]
  go_wp2_with fail
  refine (same_num _ _ _ 0 0 0 0 0 0 J2.out J4.out).mono ?_
  rintro e w2 ⟨rfl, hb2⟩
  have hW2 := below_call hW1 hb2 hW1.size
  clear hb2 x0 x1 x2 x3 y0 y1 y2 y3
  rw [decide_eq_true (rfl : (0 : Int) = 0)]
  go_wp2
  go_ret
  exact ⟨rfl, hW2⟩

set_option maxHeartbeats 3200000 in
theorem sameWk_any (w : World) (x : EX) (n m : Nat) (m1 : Bool) (p1 : Option Addr) (j1 d1 : Nat) (m2 : Bool) (p2 : Option Addr) (j2 d2 : Nat) (m3 : Bool) (p3 : Option Addr) (j3 d3 : Nat) (m4 : Bool) (p4 : Option Addr) (j4 d4 : Nat) (h1 : EWk w n m1 p1 j1 d1 m2 p2 j2 d2 x) (h2 : EWk w m m3 p3 j3 d3 m4 p4 j4 d4 x) :
    Calls Tryz.prog 15 #[.agg #[.int .i64 (eK x), .bool m1, .slice p1 j1 d1, .bool m2, .slice p2 j2 d2], .agg #[.int .i64 (eK x), .bool m3, .slice p3 j3 d3, .bool m4, .slice p4 j4 d4]] w fun e w' => e = .returned (.bool true) ∧ Below w.heap.size w w' := by
  have hW0 : Below w.heap.size w ((w.alloc (.cells #[.int .i64 (eK x), .bool m1, .slice p1 j1 d1, .bool m2, .slice p2 j2 d2] 28)).alloc (.cells #[.int .i64 (eK x), .bool m3, .slice p3 j3 d3, .bool m4, .slice p4 j4 d4] 28)) := (by repeat (first | exact Below.refl _ _ | refine Below.alloc ?_ ?_ _ | refine Below.setCell ?_ ?_ _ | refine Below.drew ?_ | refine below_drewN ?_ _ | (· simp) | omega | (· simp; omega) | exact Below.size (by assumption) | assumption | refine below_call ?_ (by assumption) ?_))
  replace h1 := h1.below hW0
  replace h2 := h2.below hW0
  have HK : Hid (eK x = eK x) := hid rfl
  go_enter Tryz.func15, Tryz.ntmps15
  cases x with
  | lo =>
    obtain ⟨rfl, rfl, s1, rfl, rfl, s2⟩ := h1
    obtain ⟨rfl, rfl, s3, rfl, rfl, s4⟩ := h2
    have S1 := hid s1
    have S2 := hid s2
    have S3 := hid s3
    have S4 := hid s4
    clear s1 s2 s3 s4
    simp only [eK] at *
    go_wp2_with fail
    refine (sameZ_any _ _ _ _ _ _ _ _ _ S1.out S2.out S3.out S4.out).mono ?_
    rintro e w1 ⟨rfl, hb1⟩
    have hW1 := below_call hW0 hb1 hW0.size
    clear hb1
    go_wp2
    go_ret
    exact ⟨rfl, hW1⟩
  | hi =>
    obtain ⟨rfl, rfl, s1, rfl, rfl, s2⟩ := h1
    obtain ⟨rfl, rfl, s3, rfl, rfl, s4⟩ := h2
    have S1 := hid s1
    have S2 := hid s2
    have S3 := hid s3
    have S4 := hid s4
    clear s1 s2 s3 s4
    simp only [eK] at *
    go_wp2_with fail
    refine (sameZ_any _ _ _ _ _ _ _ _ _ S1.out S2.out S3.out S4.out).mono ?_
    rintro e w1 ⟨rfl, hb1⟩
    have hW1 := below_call hW0 hb1 hW0.size
    clear hb1
    go_wp2
    go_ret
    exact ⟨rfl, hW1⟩
  | q r =>
    have H1 : Hid (RIs _ 0 _ n r) := hid h1
    have H2 : Hid (RIs _ 0 _ m r) := hid h2
    clear h1 h2
    simp only [eK] at *
    go_wp2_with fail
    refine (sameRat_any _ _ _ n m r r H1.out H2.out).mono ?_
    rintro e w1 ⟨rfl, hb1⟩
    have hW1 := below_call hW0 hb1 hW0.size
    rw [decide_eq_true rfl]
    clear hb1
    go_wp2
    go_ret
    exact ⟨rfl, hW1⟩

/-- Nought, handed in as the zero value. -/
def x0E : EX := extMean 0 false [] false []
theorem earg_zero (w : World) : EArg w (.agg #[.int .i64 0, .bool false, .slice none 0 0, .bool false, .slice none 0 0]) 0 x0E := ⟨0, false, none, 0, [], false, none, 0, [], rfl, slat_zero w, slat_zero w, Nat.le_refl _, Nat.le_refl _, rfl⟩

set_option maxHeartbeats 3200000 in
theorem extOf_any (w : World) (v : Value) (m : Nat) (t : Rat) (hv : RArg w v m t) (hm : m ≤ 10000) :
    Calls Tryz.prog 24 #[v] w (ETold (4 * m + 18) (addE x0E t) w) := by
  have HV := hid hv
  obtain ⟨n1, a1, L1, c1, n2, a2, L2, c2, rfl⟩ := hv.shape
  clear hv
  have hW0 : Below w.heap.size w ((w.alloc (.cells #[.bool n1, .slice a1 L1 c1, .bool n2, .slice a2 L2 c2] 26)).alloc (.cells #[.int .i64 0, .bool false, .slice none 0 0, .bool false, .slice none 0 0] 28)) := (by repeat (first | exact Below.refl _ _ | refine Below.alloc ?_ ?_ _ | refine Below.setCell ?_ ?_ _ | refine Below.drew ?_ | refine below_drewN ?_ _ | (· simp) | omega | (· simp; omega) | exact Below.size (by assumption) | assumption | refine below_call ?_ (by assumption) ?_))
  have bA : Box4 ((w.alloc (.cells #[.bool n1, .slice a1 L1 c1, .bool n2, .slice a2 L2 c2] 26)).alloc (.cells #[.int .i64 0, .bool false, .slice none 0 0, .bool false, .slice none 0 0] 28)) w.heap.size (.bool n1) (.slice a1 L1 c1) (.bool n2) (.slice a2 L2 c2) := (Box4.new _ _ _ _ _ _ rfl).alloc _
  have bR : Box5 ((w.alloc (.cells #[.bool n1, .slice a1 L1 c1, .bool n2, .slice a2 L2 c2] 26)).alloc (.cells #[.int .i64 0, .bool false, .slice none 0 0, .bool false, .slice none 0 0] 28)) (w.heap.size + 1) (.int .i64 0) (.bool false) (.slice none 0 0) (.bool false) (.slice none 0 0) := Box5.new _ _ _ _ _ _ _ (by simp)
  replace HV := hid (HV.out.below hW0)
  go_enter Tryz.func24, Tryz.ntmps24
  obtain ⟨x0, x1, x2, x3⟩ := bA.c
  have xl := bA.lt
  go_wp2_with fail
  clear x0 x1 x2 x3 xl
  generalize (w.alloc (.cells #[.bool n1, .slice a1 L1 c1, .bool n2, .slice a2 L2 c2] 26)).alloc (.cells #[.int .i64 0, .bool false, .slice none 0 0, .bool false, .slice none 0 0] 28) = W0 at *
  refine (extAdd_any _ _ _ 0 m x0E t (earg_zero _) HV.out (by omega) hm).mono ?_
  rintro e w2 ⟨m1, p1, j1, d1, m2, p2, j2, d2, rfl, hI, hb2⟩
  generalize addE x0E t = x at *
  have hW2 := below_call hW0 hb2 hW0.size
  replace bR := bR.keep hb2
  have HS := hid (hI.off5 bR (grow5 w2 (w.heap.size + 1) (.int .i64 (eK x)) (.bool m1) (.slice p1 j1 d1) (.bool m2) (.slice p2 j2 d2)))
  have HB := hid (below_fill5 hW2 (show w.heap.size ≤ w.heap.size + 1 by omega) (.int .i64 (eK x)) (.bool m1) (.slice p1 j1 d1) (.bool m2) (.slice p2 j2 d2))
  obtain ⟨r0, r1, r2, r3, r4⟩ := bR.c
  have rf := bR.f
  have rl := bR.lt
  clear hb2 hI bR bA HV
  go_wp2
  refine bodyPost_ret (v := (.agg #[.int .i64 (eK x), .bool m1, .slice p1 j1 d1, .bool m2, .slice p2 j2 d2])) ?_ rfl ⟨m1, p1, j1, d1, m2, p2, j2, d2, rfl, HS.out.mono (by omega), HB.out⟩
  simp [results, Tryz.results24, go_sem, r0, r1, r2, r3, r4]

def EW (w : World) (v : Value) (n : Nat) (x : EX) : Prop := ∃ m1 p1 j1 d1 m2 p2 j2 d2, v = (.agg #[.int .i64 (eK x), .bool m1, .slice p1 j1 d1, .bool m2, .slice p2 j2 d2]) ∧ EWk w n m1 p1 j1 d1 m2 p2 j2 d2 x
theorem EW.below {w w' : World} {v : Value} {n : Nat} {x : EX} (h : EW w v n x) (hb : Below w.heap.size w w') : EW w' v n x := by
  obtain ⟨m1, p1, j1, d1, m2, p2, j2, d2, e, h⟩ := h
  exact ⟨m1, p1, j1, d1, m2, p2, j2, d2, e, h.below hb⟩
structure YE (U W : World) (KR : List (Value × Nat × Rat)) (KE KW : List (Value × Nat × EX)) : Prop where
  r : ∀ p ∈ KR, RArg W p.1 p.2.1 p.2.2
  e : ∀ p ∈ KE, EArg W p.1 p.2.1 p.2.2
  f : ∀ p ∈ KW, EW W p.1 p.2.1 p.2.2
  bl : Below U.heap.size U W
variable {U W W' : World} {KR : List (Value × Nat × Rat)} {KE KW : List (Value × Nat × EX)} {u v : Value} {n m : Nat} {x y : EX} {t : Rat} {c : Int}
theorem YE.step (E : YE U W KR KE KW) (hb : Below W.heap.size W W') : YE U W' KR KE KW :=
  ⟨fun p hp => (E.r p hp).below hb, fun p hp => (E.e p hp).below hb, fun p hp => (E.f p hp).below hb, below_call E.bl hb E.bl.size⟩
theorem YE.drew (E : YE U W KR KE KW) : YE U W.drew KR KE KW := E.step (Below.refl _ _).drew
theorem YE.knowW (E : YE U W KR KE KW) (h : EW W v n x) : YE U W KR KE ((v, n, x) :: KW) := by
  refine ⟨E.r, E.e, fun p hp => ?_, E.bl⟩
  rcases List.mem_cons.1 hp with rfl | h'
  · exact h
  · exact E.f p h'
def SaysY (U : World) (KR : List (Value × Nat × Rat)) (KE KW : List (Value × Nat × EX)) (n : Nat) (x : EX) (e : Ending) (w' : World) : Prop :=
  ∃ m1 p1 j1 d1 m2 p2 j2 d2, e = .returned (.agg #[.int .i64 (eK x), .bool m1, .slice p1 j1 d1, .bool m2, .slice p2 j2 d2]) ∧ YE U w' KR KE (((.agg #[.int .i64 (eK x), .bool m1, .slice p1 j1 d1, .bool m2, .slice p2 j2 d2]), n, x) :: KW)
theorem saysY_of {e : Ending} (E : YE U W KR KE KW) (h : ETold n x W e W') : SaysY U KR KE KW n x e W' := by
  obtain ⟨m1, p1, j1, d1, m2, p2, j2, d2, rfl, hI, hb⟩ := h
  exact ⟨m1, p1, j1, d1, m2, p2, j2, d2, rfl, (E.step hb).knowW ⟨m1, p1, j1, d1, m2, p2, j2, d2, rfl, hI.wk⟩⟩
theorem saysY_on {e : Ending} (E : YE U W KR KE KW) (h : ENorm n x W e W') : SaysY U KR KE KW n x e W' := by
  obtain ⟨m1, p1, j1, d1, m2, p2, j2, d2, rfl, hI, hb⟩ := h
  exact ⟨m1, p1, j1, d1, m2, p2, j2, d2, rfl, (E.step hb).knowW ⟨m1, p1, j1, d1, m2, p2, j2, d2, rfl, hI⟩⟩
theorem ye_cmp (E : YE U W KR KE KW) (hu : (u, n, x) ∈ KE) (hv : (v, m, y) ∈ KE) (hc : cmpE x y = c) (hn : n ≤ 4000) (hm : m ≤ 4000) : Calls Tryz.prog 13 #[u, v] W fun e w' => e = .returned (.int .i64 c) ∧ YE U w' KR KE KW := by
  refine (extCmp_any W u v n m x y (E.e _ hu) (E.e _ hv) (by omega) (by omega)).mono ?_
  rintro e w' ⟨rfl, hb⟩
  exact ⟨by rw [hc], E.step hb⟩
theorem ye_rcmp (E : YE U W KR KE KW) (hu : (u, n, x) ∈ KE) (hv : (v, m, y) ∈ KE) (hc : cmpE x y = c) (hn : n ≤ 4000) (hm : m ≤ 4000) : Calls Tryz.prog 14 #[u, v] W fun e w' => e = .returned (.int .i64 c) ∧ YE U w' KR KE KW := by
  refine (rCmpExt_any W u v n m x y (E.e _ hu) (E.e _ hv) hn hm).mono ?_
  rintro e w' ⟨rfl, hb⟩
  exact ⟨by rw [hc], E.step hb⟩
theorem ye_max (E : YE U W KR KE KW) (hu : (u, n, x) ∈ KE) (hv : (v, n, y) ∈ KE) (hn : n ≤ 4000) : Calls Tryz.prog 16 #[u, v] W (SaysY U KR KE KW (4 * n + 18) (maxE x y)) :=
  (extMax_any W u v n x y (E.e _ hu) (E.e _ hv) (by omega)).mono fun _ _ h => saysY_of E h
theorem ye_min (E : YE U W KR KE KW) (hu : (u, n, x) ∈ KE) (hv : (v, n, y) ∈ KE) (hn : n ≤ 4000) : Calls Tryz.prog 18 #[u, v] W (SaysY U KR KE KW (4 * n + 18) (minE x y)) :=
  (extMin_any W u v n x y (E.e _ hu) (E.e _ hv) (by omega)).mono fun _ _ h => saysY_of E h
theorem ye_rmax (E : YE U W KR KE KW) (hu : (u, n, x) ∈ KE) (hv : (v, n, y) ∈ KE) (hn : n ≤ 4000) : Calls Tryz.prog 17 #[u, v] W (SaysY U KR KE KW (n + 2) (maxE x y)) :=
  (rMaxExt_any W u v n x y (E.e _ hu) (E.e _ hv) hn).mono fun _ _ h => saysY_on E h
theorem ye_rmin (E : YE U W KR KE KW) (hu : (u, n, x) ∈ KE) (hv : (v, n, y) ∈ KE) (hn : n ≤ 4000) : Calls Tryz.prog 19 #[u, v] W (SaysY U KR KE KW (n + 2) (minE x y)) :=
  (rMinExt_any W u v n x y (E.e _ hu) (E.e _ hv) hn).mono fun _ _ h => saysY_on E h
theorem ye_add (E : YE U W KR KE KW) (hu : (u, n, x) ∈ KE) (hv : (v, m, t) ∈ KR) (hn : n ≤ 4000) (hm : m ≤ 4000) : Calls Tryz.prog 20 #[u, v] W (SaysY U KR KE KW (4 * n + 4 * m + 18) (addE x t)) :=
  (extAdd_any W u v n m x t (E.e _ hu) (E.r _ hv) (by omega) (by omega)).mono fun _ _ h => saysY_of E h
theorem ye_radd (E : YE U W KR KE KW) (hu : (u, n, x) ∈ KE) (hv : (v, m, t) ∈ KR) (hn : n ≤ 4000) (hm : m ≤ 4000) : Calls Tryz.prog 21 #[u, v] W (SaysY U KR KE KW (3 * (n + 2) + 3 * m + 13) (addE x t)) :=
  (rAddExt_any W u v n m x t (E.e _ hu) (E.r _ hv) hn hm).mono fun _ _ h => saysY_on E h
theorem ye_of (E : YE U W KR KE KW) (hv : (v, m, t) ∈ KR) (hm : m ≤ 4000) : Calls Tryz.prog 24 #[v] W (SaysY U KR KE KW (4 * m + 18) (addE x0E t)) :=
  (extOf_any W v m t (E.r _ hv) (by omega)).mono fun _ _ h => saysY_of E h
theorem ye_text {tx : ByteArray} (E : YE U W KR KE KW) (hu : (u, n, x) ∈ KE) (ht : textE x = tx) (hn : n ≤ 4000) : Calls Tryz.prog 22 #[u] W fun e w' => e = .returned (.string tx) ∧ YE U w' KR KE KW := by
  refine (extText_any W u n x (E.e _ hu) (by omega)).mono ?_
  rintro e w' ⟨rfl, hb⟩
  exact ⟨by rw [ht], E.step hb⟩
theorem ye_rtext {tx : ByteArray} (E : YE U W KR KE KW) (hu : (u, n, x) ∈ KE) (ht : textE x = tx) (hn : n ≤ 4000) : Calls Tryz.prog 23 #[u] W fun e w' => e = .returned (.string tx) ∧ YE U w' KR KE KW := by
  refine (rTextExt_any W u n x (E.e _ hu) (by omega)).mono ?_
  rintro e w' ⟨rfl, hb⟩
  exact ⟨by rw [ht], E.step hb⟩
theorem ye_same (E : YE U W KR KE KW) (hu : (u, n, x) ∈ KW) (hv : (v, m, x) ∈ KW) : Calls Tryz.prog 15 #[u, v] W fun e w' => e = .returned (.bool true) ∧ YE U w' KR KE KW := by
  obtain ⟨m1, p1, j1, d1, m2, p2, j2, d2, e1, h1⟩ := E.f _ hu
  obtain ⟨m3, p3, j3, d3, m4, p4, j4, d4, e2, h2⟩ := E.f _ hv
  simp only at e1 e2
  subst e1 e2
  refine (sameWk_any W x n m m1 p1 j1 d1 m2 p2 j2 d2 m3 p3 j3 d3 m4 p4 j4 d4 h1 h2).mono ?_
  rintro e w' ⟨rfl, hb⟩
  exact ⟨rfl, E.step hb⟩
theorem ye_awake (E : YE U W KR KE KW) : Calls Tryz.prog 10 #[] W fun e w' => e = .returned (.bool true) ∧ YE U w' KR KE KW := by
  refine (awake3_any W).mono ?_
  rintro e w' ⟨rfl, hb⟩
  exact ⟨rfl, E.step hb⟩

end Go.Proofs.YtmnlggmdomcajaaGreat
