/-
  The law VecRows.
  Walks: tables; mapped over rows; times, Times; columns, Left.
  Walks: columns.
  Walks: all columns.
  Walks: Left.
  Walks: the document's Times.
  Walks: the document's Left.
  The law VecTables.
-/
import Derived.Test.YtmnlggmdomcajaaGreatVB
import Derived.Test.YtmnlggmdomcajaaGreatVA

namespace Go.Proofs.YtmnlggmdomcajaaGreat
open Go.RowKit Lm
set_option linter.unusedSimpArgs false
set_option linter.unusedVariables false
set_option maxRecDepth 100000

theorem rawTab2 {W0 : World} {g : Nat} (hg : g = W0.heap.size) {a b : Option Addr} {k1 c1 k2 c2 : Nat} {A B : List RQ} (e1 : k1 = A.length) (e2 : k2 = B.length) (h1 : RawRow W0 a c1 A) (h2 : RawRow W0 b c2 B) : RawTab (W0.alloc (.cells #[.slice a k1 c1, .slice b k2 c2] 41)) (some ⟨g, 0, none⟩) 2 [A, B] := by
  subst hg
  have h := heap_alloc_new W0 (.cells #[.slice a k1 c1, .slice b k2 c2] 41)
  have hb : Below W0.heap.size W0 (W0.alloc (.cells #[.slice a k1 c1, .slice b k2 c2] 41)) := (Below.refl _ _).alloc (Nat.le_refl _) _
  refine ⟨Nat.le_refl _, by unfold maxLen; omega, .inr ⟨W0.heap.size, 0, rfl, (Array.getElem?_eq_some_iff.1 h).1, fun i hi => ?_⟩⟩
  simp at hi
  rcases (show i = 0 ∨ i = 1 by omega) with rfl | rfl
  · exact ⟨_, _, _, by rw [cell_of_row _ _ _ _ _ _ h]; rfl, e1, h1.below hb⟩
  · exact ⟨_, _, _, by rw [cell_of_row _ _ _ _ _ _ h]; rfl, e2, h2.below hb⟩

end Go.Proofs.YtmnlggmdomcajaaGreat

namespace Go.Proofs.YtmnlggmdomcajaaGreat
open Go.RowKit Lm
set_option linter.unusedSimpArgs false
set_option linter.unusedVariables false
set_option maxRecDepth 100000

/-- A table: rows of quotients. -/
def QTab (w : World) (ao : Option Addr) (cap n : Nat) (M : List (List Rat)) : Prop := M.length ≤ cap ∧ cap ≤ maxLen ∧ (M.length = 0 ∨ ∃ b off, ao = some ⟨b, off, none⟩ ∧ b < w.heap.size ∧ ∀ i (h : i < M.length), ∃ a k c, w.cell? ⟨b, off + i, none⟩ = some (.slice a k c) ∧ QSl w (.slice a k c) n M[i])
theorem QTab.below {w w' : World} {ao : Option Addr} {cap n : Nat} {M : List (List Rat)} (h : QTab w ao cap n M) (hb : Below w.heap.size w w') : QTab w' ao cap n M := by
  obtain ⟨h1, h2, h3⟩ := h
  refine ⟨h1, h2, ?_⟩
  rcases h3 with h3 | ⟨b, off, e, hlt, hc⟩
  · exact .inl h3
  · refine .inr ⟨b, off, e, Nat.lt_of_lt_of_le hlt hb.size, fun i hi => ?_⟩
    obtain ⟨a, k, c, h4, h5⟩ := hc i hi
    exact ⟨a, k, c, (bcells hb _ _ hlt).trans h4, h5.below hb⟩
theorem QTab.at {w : World} {ao : Option Addr} {cap n : Nat} {M : List (List Rat)} (h : QTab w ao cap n M) (h0 : 0 < M.length) : ∃ b off, ao = some ⟨b, off, none⟩ ∧ b < w.heap.size ∧ ∀ i (h : i < M.length), ∃ a k c, w.cell? ⟨b, off + i, none⟩ = some (.slice a k c) ∧ QSl w (.slice a k c) n M[i] := by
  obtain ⟨h1, h2, h3⟩ := h
  rcases h3 with h3 | h3
  · omega
  · exact h3
theorem QTab.len {w : World} {ao : Option Addr} {cap n : Nat} {M : List (List Rat)} (h : QTab w ao cap n M) : M.length ≤ 9223372036854775807 := by
  have h1 := h.1
  have h2 := h.2.1
  unfold maxLen at h2
  omega
theorem QSl.len {w : World} {a : Option Addr} {k c n : Nat} {R : List Rat} (h : QSl w (.slice a k c) n R) : k = R.length ∧ k ≤ 9223372036854775807 := by
  obtain ⟨h1, h2⟩ := qsl_at h
  have h3 := h2.1
  have h4 := h2.2.1
  unfold maxLen at h4
  exact ⟨h1, by omega⟩
theorem RawTab.qtab {w : World} {ao : Option Addr} {cap : Nat} {M : List (List RQ)} (h : RawTab w ao cap M) (hs : ∀ L ∈ M, ∀ q ∈ L, q.small) : QTab w ao cap 6 (M.map (List.map RQ.r)) := by
  obtain ⟨h1, h2, h3⟩ := h
  refine ⟨by rw [List.length_map]; exact h1, h2, ?_⟩
  rcases h3 with h3 | ⟨b, off, e, hlt, hc⟩
  · exact .inl (by rw [List.length_map]; exact h3)
  · refine .inr ⟨b, off, e, hlt, fun i hi => ?_⟩
    rw [List.length_map] at hi
    obtain ⟨a, k, c, h4, h5, h6⟩ := hc i hi
    rw [List.getElem_map]
    exact ⟨a, k, c, h4, _, _, _, rfl, by rw [List.length_map]; exact h5, h6.qat (hs _ (List.getElem_mem hi))⟩

/-- Whether each row has n numbers. -/
def wide (M : List (List Rat)) (n : Int) : Bool := M.all (fun R => decide ((R.length : Int) = n))

set_option maxHeartbeats 800000 in
theorem areOf_any (w : World) (ao : Option Addr) (cap k s : Nat) (n : Int) (M : List (List Rat)) (hk : k = M.length) (hA : QTab w ao cap s M) :
    Calls Tryz.prog 106 #[.slice ao k cap, .int .i64 n] w fun e w' => e = .returned (.bool (wide M n)) ∧ w' = w := by
  have hk64 : k ≤ 9223372036854775807 := by have := hA.len; omega
  have HA := hid hA
  have HK := hid hk
  clear hA hk
  go_enter Tryz.func106, Tryz.ntmps106
  go_wp2
  go_loop [9] (fun iv => ∃ i : Nat, i ≤ k ∧ iv = .int .i64 i ∧ ∀ j (hj : j < M.length), j < i → (M[j].length : Int) = n) (fun iv => k - (intOf iv).toNat)
  case atStart => exact ⟨0, Nat.zero_le _, rfl, fun j hj h => by omega⟩
  case round =>
    obtain ⟨i, hik, rfl, hall⟩ := hrel
    have HL := hid hall
    clear hall
    by_cases hlt : i < k
    · have hi' : i < M.length := by rw [← HK.out]; exact hlt
      obtain ⟨b1, o1, rfl, l1, hc⟩ := HA.out.at (by omega)
      obtain ⟨a, kr, cr, hcell, hq⟩ := hc i hi'
      obtain ⟨hkr, hkm⟩ := hq.len
      have HKR := hid hkr
      clear hc hq hkr
      by_cases hn : (kr : Int) = n
      · have hne : ((kr : Int) != n) = false := by simp [hn]
        have HN := hid hn
        clear hn
        go_wp2
        go_round
        case rel =>
          refine ⟨i + 1, by omega, by go_num, fun j hj hji => ?_⟩
          by_cases hj2 : j = i
          · subst hj2; rw [← HKR.out]; exact HN.out
          · exact HL.out j hj (by omega)
        case measure => simp [intOf]; omega
      · have hne : ((kr : Int) != n) = true := by simp [hn]
        have HF : Hid (wide M n = false) := hid (by
          unfold wide
          rw [List.all_eq_false]
          exact ⟨M[i], List.getElem_mem hi', by rw [← HKR.out]; simpa using hn⟩)
        clear hn
        go_wp2
        go_ret
        exact ⟨ret_bool HF.out.symm, rfl⟩
    · have HF : Hid (wide M n = true) := hid (by
        unfold wide
        rw [List.all_eq_true]
        intro R hR
        obtain ⟨j, hj, rfl⟩ := List.getElem_of_mem hR
        exact decide_eq_true (HL.out j hj (by have := HK.out; omega)))
      go_wp2
      go_ret
      exact ⟨ret_bool HF.out.symm, rfl⟩

set_option maxHeartbeats 3200000 in
theorem mappedT_any (w : World) (ao : Option Addr) (cap k n : Nat) (M : List (List Rat)) (u1 : Value) (G : Nat → World → Value → Prop) (S : Stays G) (hk : k = M.length) (hl : k ≤ 1000000) (hA : QTab w ao cap n M)
    (hf : ∀ i (h : i < M.length) (W : World) (x : Value), Below w.heap.size w W → QSl W x n M[i] → Calls Tryz.prog 138 #[.int .i64 (i : Int), x, u1] W (GSay G i W)) :
    Calls Tryz.prog 137 #[.slice ao k cap, .func (.func 138) #[] #[u1]] w (QTold G k w) := by
  obtain ⟨i0, hi, hz0, hz1, hz2⟩ := info_parts Tryz.infoRat
  have HF := hid hf
  have HA := hid hA
  have HK := hid hk
  clear hf hA hk
  go_enter Tryz.func137, Tryz.ntmps137
  go_wp2_with (at_make; go_must (refine wpList_make_full _ rfl _ _ 41 rfl w.heap.size 26 i0 (.agg #[.bool false, .slice none 0 0, .bool false, .slice none 0 0]) 4 Tryz.underlying41 hi hz0 hz1 .i64 .i64 _ _ k rfl rfl (by omega) (by omega) (by rw [hz2]; omega) (by unfold maxLen; omega) (by simp) ?_); intro w1 hown hgrow; have hrow := made4 _ _ _ _ hown; have hb1 : Below w.heap.size w w1 := (Below.refl _ _).grown hgrow (Nat.le_refl _) (by simp); clear hown hgrow)
  go_loopw [13] (fun iv wr => MapRel G k w iv wr) (fun iv wr => k - (intOf iv).toNat)
  case atStart => exact ⟨0, Nat.zero_le _, rfl, hrow, fun j hj => by omega, hb1⟩
  case round =>
    obtain ⟨i, hik, rfl, hrw, hgot, hbw⟩ := hrel
    clear hrow hb1
    have HG := hid hgot
    clear hgot
    by_cases hlt : i < k
    · have hi' : i < M.length := by rw [← HK.out]; exact hlt
      obtain ⟨b1, o1, rfl, l1, hc⟩ := HA.out.at (by omega)
      obtain ⟨a, kr, cr, hcell, hq⟩ := hc i hi'
      replace hcell := (bcells hbw _ _ l1).trans hcell
      have HX := hid (hq.below hbw)
      clear hc hq
      go_wp2_with fail
      refine (HF.out i hi' _ _ hbw HX.out).mono ?_
      rintro e w2 ⟨n3, a3, k3, c3, n4, a4, k4, c4, rfl, hG, hb3⟩
      have hb4 := below_call hbw hb3 hbw.size
      have hB2 := hrw.keep hb3
      have hfz := hB2.f
      obtain ⟨v0, e0⟩ := hB2.has (i * 4) (by omega)
      obtain ⟨v1, e1⟩ := hB2.has (i * 4 + 1) (by omega)
      obtain ⟨v2, e2⟩ := hB2.has (i * 4 + 2) (by omega)
      obtain ⟨v3, e3⟩ := hB2.has (i * 4 + 3) (by omega)
      have HN := hid (QGot.new S hB2 hlt hG)
      have HO : Hid (∀ j, j < i → QGot G (fillAt w2 w.heap.size (i * 4) (.bool n3) (.slice a3 k3 c3) (.bool n4) (.slice a4 k4 c4)) w.heap.size j) := hid (fun j hj => ((HG.out j hj).keep S hrw.lt hb3).fill S hB2 hj _ _ _ _)
      have HB := hid (hB2.fill (i * 4) n3 n4 a3 a4 k3 c3 k4 c4)
      have HW := hid (below_fillAt hb4 (Nat.le_refl _) (i * 4) (.bool n3) (.slice a3 k3 c3) (.bool n4) (.slice a4 k4 c4))
      clear hb3 hG hrw HG hbw HX hcell hb4 hB2
      go_wp2
      go_roundw
      case rel =>
        refine ⟨i + 1, by omega, by go_num, HB.out, fun j hj => ?_, HW.out⟩
        by_cases hj2 : j = i
        · subst hj2; exact HN.out
        · exact HO.out j (by omega)
      case measure => simp [intOf]; omega
    · have hke : i = k := by omega
      subst hke
      have HR : Hid (QTold G i w (.returned (.slice (some ⟨w.heap.size, 0, none⟩) i i)) wr) := ⟨_, rfl, Nat.le_refl _, hrw, HG.out, hbw⟩
      clear hrw hbw HG
      go_wp2
      go_ret
      exact HR.out

set_option maxHeartbeats 3200000 in
theorem mappedC_any (w : World) (ao : Option Addr) (cap k n : Nat) (M : List (List Rat)) (u1 : Value) (G : Nat → World → Value → Prop) (S : Stays G) (hk : k = M.length) (hl : k ≤ 1000000) (hA : QTab w ao cap n M)
    (hf : ∀ i (h : i < M.length) (W : World) (x : Value), Below w.heap.size w W → QSl W x n M[i] → Calls Tryz.prog 157 #[.int .i64 (i : Int), x, u1] W (GSay G i W)) :
    Calls Tryz.prog 137 #[.slice ao k cap, .func (.func 157) #[] #[u1]] w (QTold G k w) := by
  obtain ⟨i0, hi, hz0, hz1, hz2⟩ := info_parts Tryz.infoRat
  have HF := hid hf
  have HA := hid hA
  have HK := hid hk
  clear hf hA hk
  go_enter Tryz.func137, Tryz.ntmps137
  go_wp2_with (at_make; go_must (refine wpList_make_full _ rfl _ _ 41 rfl w.heap.size 26 i0 (.agg #[.bool false, .slice none 0 0, .bool false, .slice none 0 0]) 4 Tryz.underlying41 hi hz0 hz1 .i64 .i64 _ _ k rfl rfl (by omega) (by omega) (by rw [hz2]; omega) (by unfold maxLen; omega) (by simp) ?_); intro w1 hown hgrow; have hrow := made4 _ _ _ _ hown; have hb1 : Below w.heap.size w w1 := (Below.refl _ _).grown hgrow (Nat.le_refl _) (by simp); clear hown hgrow)
  go_loopw [13] (fun iv wr => MapRel G k w iv wr) (fun iv wr => k - (intOf iv).toNat)
  case atStart => exact ⟨0, Nat.zero_le _, rfl, hrow, fun j hj => by omega, hb1⟩
  case round =>
    obtain ⟨i, hik, rfl, hrw, hgot, hbw⟩ := hrel
    clear hrow hb1
    have HG := hid hgot
    clear hgot
    by_cases hlt : i < k
    · have hi' : i < M.length := by rw [← HK.out]; exact hlt
      obtain ⟨b1, o1, rfl, l1, hc⟩ := HA.out.at (by omega)
      obtain ⟨a, kr, cr, hcell, hq⟩ := hc i hi'
      replace hcell := (bcells hbw _ _ l1).trans hcell
      have HX := hid (hq.below hbw)
      clear hc hq
      go_wp2_with fail
      refine (HF.out i hi' _ _ hbw HX.out).mono ?_
      rintro e w2 ⟨n3, a3, k3, c3, n4, a4, k4, c4, rfl, hG, hb3⟩
      have hb4 := below_call hbw hb3 hbw.size
      have hB2 := hrw.keep hb3
      have hfz := hB2.f
      obtain ⟨v0, e0⟩ := hB2.has (i * 4) (by omega)
      obtain ⟨v1, e1⟩ := hB2.has (i * 4 + 1) (by omega)
      obtain ⟨v2, e2⟩ := hB2.has (i * 4 + 2) (by omega)
      obtain ⟨v3, e3⟩ := hB2.has (i * 4 + 3) (by omega)
      have HN := hid (QGot.new S hB2 hlt hG)
      have HO : Hid (∀ j, j < i → QGot G (fillAt w2 w.heap.size (i * 4) (.bool n3) (.slice a3 k3 c3) (.bool n4) (.slice a4 k4 c4)) w.heap.size j) := hid (fun j hj => ((HG.out j hj).keep S hrw.lt hb3).fill S hB2 hj _ _ _ _)
      have HB := hid (hB2.fill (i * 4) n3 n4 a3 a4 k3 c3 k4 c4)
      have HW := hid (below_fillAt hb4 (Nat.le_refl _) (i * 4) (.bool n3) (.slice a3 k3 c3) (.bool n4) (.slice a4 k4 c4))
      clear hb3 hG hrw HG hbw HX hcell hb4 hB2
      go_wp2
      go_roundw
      case rel =>
        refine ⟨i + 1, by omega, by go_num, HB.out, fun j hj => ?_, HW.out⟩
        by_cases hj2 : j = i
        · subst hj2; exact HN.out
        · exact HO.out j (by omega)
      case measure => simp [intOf]; omega
    · have hke : i = k := by omega
      subst hke
      have HR : Hid (QTold G i w (.returned (.slice (some ⟨w.heap.size, 0, none⟩) i i)) wr) := ⟨_, rfl, Nat.le_refl _, hrw, HG.out, hbw⟩
      clear hrw hbw HG
      go_wp2
      go_ret
      exact HR.out

theorem times1_any (w : World) (gb n m kx cx k : Nat) (i : Int) (xo : Option Addr) (rv : Value) (R X : List Rat) (hS : BoxS w gb (.slice xo kx cx)) (hX : QSl w (.slice xo kx cx) m X) (hR : QSl w rv n R) (hk : R.length = k) (hk2 : X.length = k) (hn : 1 ≤ n) (hm : 1 ≤ m) (hs : (n + m) * k ≤ 14000) :
    Calls Tryz.prog 138 #[.int .i64 i, rv, .pointer (some ⟨gb, 0, none⟩)] w (RSay 0 ((n + m) * k + 1) (dotR R X) w) := by
  have hW0 : Below w.heap.size w (w.alloc (.cells #[.bool false, .slice none 0 0, .bool false, .slice none 0 0] 26)) := (by repeat (first | exact Below.refl _ _ | refine Below.alloc ?_ ?_ _ | refine Below.setCell ?_ ?_ _ | refine Below.drew ?_ | refine below_drewN ?_ _ | (· simp) | omega | (· simp; omega) | exact Below.size (by assumption) | assumption | refine below_call ?_ (by assumption) ?_))
  have bR : Box4 (w.alloc (.cells #[.bool false, .slice none 0 0, .bool false, .slice none 0 0] 26)) w.heap.size (.bool false) (.slice none 0 0) (.bool false) (.slice none 0 0) := Box4.new _ _ _ _ _ _ rfl
  have g0 := (hS.keep hW0).c
  have gl := (hS.keep hW0).lt
  have HX := hid (hX.below hW0)
  have HR := hid (hR.below hW0)
  have HK := hid hk
  have HK2 := hid hk2
  have HSZ := hid hs
  obtain ⟨ra, rk, rc, rfl, -, -⟩ := hR
  clear hX hk hk2 hs hS
  go_enter Tryz.func138, Tryz.ntmps138
  go_wp2_with fail
  generalize w.alloc (.cells #[.bool false, .slice none 0 0, .bool false, .slice none 0 0] 26) = W0 at *
  refine (dot_any k _ _ _ n m R X HK.out HK2.out HR.out HX.out hn hm HSZ.out).mono ?_
  rintro e w1 ⟨nr, ar, kr, cr, nt, at', kt, ct, rfl, hI, hb⟩
  have hW1 := below_call hW0 hb hW0.size
  replace bR := bR.keep hb
  have HS := hid (hI.off4 bR (grow4 w1 w.heap.size (.bool nr) (.slice ar kr cr) (.bool nt) (.slice at' kt ct)))
  have HB2 := hid (below_fill4 hW1 (Nat.le_refl _) (.bool nr) (.slice ar kr cr) (.bool nt) (.slice at' kt ct))
  obtain ⟨r0, r1, r2, r3⟩ := bR.c
  have rf := bR.f
  have rl := bR.lt
  clear hb hI bR HX HR g0 gl
  go_wp2
  refine bodyPost_ret (v := .agg #[.bool nr, .slice ar kr cr, .bool nt, .slice at' kt ct]) ?_ rfl ⟨nr, ar, kr, cr, nt, at', kt, ct, rfl, HS.out, HB2.out⟩
  simp [results, Tryz.results138, go_sem, r0, r1, r2, r3]

/-- Each row's Dot with x. -/
def timesR (M : List (List Rat)) (X : List Rat) : List Rat := M.map (fun R => dotR R X)
/-- A row has been told. -/
def QOne (n : Nat) (R : List Rat) (w : World) (e : Ending) (w' : World) : Prop := ∃ ao k cap, e = .returned (.slice ao k cap) ∧ k = R.length ∧ QIs w' (.slice ao k cap) n R ∧ Below w.heap.size w w'

theorem vtimes_any (w : World) (ao xo : Option Addr) (k ca kx cx n m : Nat) (M : List (List Rat)) (X : List Rat) (hk : k = M.length) (hl : k ≤ 1000000) (hM : QTab w ao ca n M) (hX : QSl w (.slice xo kx cx) m X) (hw : ∀ R ∈ M, R.length = X.length) (hn : 1 ≤ n) (hm : 1 ≤ m) (hs : (n + m) * X.length ≤ 14000) :
    Calls Tryz.prog 107 #[.slice ao k ca, .slice xo kx cx] w (QOne ((n + m) * X.length + 1) (timesR M X) w) := by
  have hWl : Below w.heap.size w (w.alloc (.cells #[.slice xo kx cx] 41)) := (by repeat (first | exact Below.refl _ _ | refine Below.alloc ?_ ?_ _ | refine Below.setCell ?_ ?_ _ | refine Below.drew ?_ | refine below_drewN ?_ _ | (· simp) | omega | (· simp; omega) | exact Below.size (by assumption) | assumption | refine below_call ?_ (by assumption) ?_))
  have bS : BoxS (w.alloc (.cells #[.slice xo kx cx] 41)) w.heap.size (.slice xo kx cx) := BoxS.new _ _ _ _ rfl
  have HM := hid (hM.below hWl)
  have HX := hid (hX.below hWl)
  have HK := hid hk
  have HW := hid hw
  have HSZ := hid hs
  clear hM hX hk hw hs
  go_enter Tryz.func107, Tryz.ntmps107
  go_wp2_with fail
  generalize w.alloc (.cells #[.slice xo kx cx] 41) = W0 at *
  refine (mappedT_any _ _ _ _ n M _ (isG ((n + m) * X.length + 1) (timesR M X)) (isG_stays _ _) HK.out hl HM.out (fun i h W x hb hx => ?_)).mono ?_
  · refine (times1_any W _ n m kx cx X.length _ xo x M[i] X (bS.keep hb) (HX.out.below hb) hx (HW.out _ (List.getElem_mem h)) rfl hn hm HSZ.out).mono ?_
    rintro e w' ⟨n5, a5, k5, c5, n6, a6, k6, c6, rfl, hI, hb2⟩
    exact ⟨n5, a5, k5, c5, n6, a6, k6, c6, rfl, fun h' => by simp only [timesR, List.getElem_map]; exact hI, hb2⟩
  · rintro e w1 ⟨g, rfl, hg, hQ, hG, hb⟩
    have HR : Hid (QOne ((n + m) * X.length + 1) (timesR M X) w (.returned (.slice (some ⟨g, 0, none⟩) k k)) w1) := hid (by
      have hl2 : k = (timesR M X).length := by rw [timesR, List.length_map]; exact HK.out
      refine ⟨_, _, _, rfl, hl2, ?_, below_call hWl hb hWl.size⟩
      obtain ⟨v, e, h1, -⟩ := qIs_of (w := W0) ⟨g, rfl, hg, hQ, hG, hb⟩ hl2 (by unfold maxLen; omega)
      simp only [Ending.returned.injEq] at e
      rw [e]
      exact h1)
    clear hQ hG hb bS HM HX
    go_wp2
    go_ret
    exact HR.out

theorem Times_any (w : World) (ao xo : Option Addr) (k ca kx cx n m : Nat) (M : List (List Rat)) (X : List Rat) (hk : k = M.length) (hl : k ≤ 1000000) (hM : QTab w ao ca n M) (hX : QSl w (.slice xo kx cx) m X) (hw : wide M kx = true) (hn : 1 ≤ n) (hm : 1 ≤ m) (hs : (n + m) * X.length ≤ 14000) :
    Calls Tryz.prog 58 #[.slice ao k ca, .slice xo kx cx] w (QPair ((n + m) * X.length + 1) (timesR M X) w) := by
  have hkx := hX.len
  have HM := hid hM
  have HX := hid hX
  have HK := hid hk
  have HW : Hid (∀ R ∈ M, R.length = X.length) := hid (fun R hR => by
    unfold wide at hw
    rw [List.all_eq_true] at hw
    have := of_decide_eq_true (hw R hR)
    have := hkx.1
    omega)
  have HW2 := hid hw
  have HSZ := hid hs
  obtain ⟨-, hkx64⟩ := hkx
  clear hM hX hk hw hs
  go_enter Tryz.func58, Tryz.ntmps58
  go_wp2_with fail
  refine (areOf_any _ _ _ _ n _ M HK.out HM.out).mono ?_
  rintro e w1 ⟨rfl, rfl⟩
  rw [HW2.out]
  go_wp2_with fail
  refine (vtimes_any _ _ _ _ _ _ _ n m M X HK.out hl HM.out HX.out HW.out hn hm HSZ.out).mono ?_
  rintro e w2 ⟨ra, rk, rc, rfl, hrk, hQ, hb⟩
  have HR : Hid (QPair ((n + m) * X.length + 1) (timesR M X) w1 (.returned (.tuple #[.slice ra rk rc, .int .i64 0])) w2) := ⟨_, _, _, rfl, hrk, hQ, hb⟩
  clear hQ hb HM HX hrk
  go_wp2
  refine bodyPost_ret (v := .tuple #[.slice ra rk rc, .int .i64 0]) ?_ rfl HR.out
  simp [results, Tryz.results58, go_sem]
theorem Times_no (w : World) (ao xo : Option Addr) (k ca kx cx n : Nat) (M : List (List Rat)) (hk : k = M.length) (hM : QTab w ao ca n M) (hkx : kx ≤ 9223372036854775807) (hw : wide M kx = false) :
    Calls Tryz.prog 58 #[.slice ao k ca, .slice xo kx cx] w (fun e w' => e = .returned (.tuple #[.slice none 0 0, .int .i64 1]) ∧ Below w.heap.size w w') := by
  have HM := hid hM
  have HK := hid hk
  have HW2 := hid hw
  clear hM hk hw
  go_enter Tryz.func58, Tryz.ntmps58
  go_wp2_with fail
  refine (areOf_any _ _ _ _ n _ M HK.out HM.out).mono ?_
  rintro e w1 ⟨rfl, rfl⟩
  rw [HW2.out]
  go_wp2
  refine bodyPost_ret (v := .tuple #[.slice none 0 0, .int .i64 1]) ?_ rfl ⟨rfl, Below.refl _ _⟩
  simp [results, Tryz.results58, go_sem]

end Go.Proofs.YtmnlggmdomcajaaGreat

namespace Go.Proofs.YtmnlggmdomcajaaGreat
open Go.RowKit Lm
set_option linter.unusedSimpArgs false
set_option linter.unusedVariables false
set_option maxRecDepth 100000

set_option maxHeartbeats 1600000 in
theorem col1_any (w : World) (gk kk n : Nat) (i : Int) (rv : Value) (R : List Rat) (hS : BoxS w gk (.int .i64 (kk : Int))) (hR : QSl w rv n R) (hk : kk < R.length) :
    Calls Tryz.prog 157 #[.int .i64 i, rv, .pointer (some ⟨gk, 0, none⟩)] w (fun e w' => ∃ n1 a1 k1 c1 n2 a2 k2 c2, e = .returned (.agg #[.bool n1, .slice a1 k1 c1, .bool n2, .slice a2 k2 c2]) ∧ RArg w' (.agg #[.bool n1, .slice a1 k1 c1, .bool n2, .slice a2 k2 c2]) n R[kk] ∧ Below w.heap.size w w') := by
  obtain ⟨ao, k, cap, rfl, hkl, hA⟩ := hR
  obtain ⟨b, o, rfl, lb⟩ := hA.spot (by omega)
  obtain ⟨n1, a1, k1, c1, n2, a2, k2, c2, p1, p2, p3, p4, pA⟩ := (hA.at kk hk).1
  have hW0 : Below w.heap.size w (w.alloc (.cells #[.bool false, .slice none 0 0, .bool false, .slice none 0 0] 26)) := (by repeat (first | exact Below.refl _ _ | refine Below.alloc ?_ ?_ _ | refine Below.setCell ?_ ?_ _ | refine Below.drew ?_ | refine below_drewN ?_ _ | (· simp) | omega | (· simp; omega) | exact Below.size (by assumption) | assumption | refine below_call ?_ (by assumption) ?_))
  have bR : Box4 (w.alloc (.cells #[.bool false, .slice none 0 0, .bool false, .slice none 0 0] 26)) w.heap.size (.bool false) (.slice none 0 0) (.bool false) (.slice none 0 0) := Box4.new _ _ _ _ _ _ rfl
  have hik : kk < k := by omega
  have hk64 : k ≤ 9223372036854775807 := by have h1 := hA.1; have h2 := hA.2.1; unfold maxLen at h2; omega
  have hC : At4 w b (o + kk * 4) (.bool n1) (.slice a1 k1 c1) (.bool n2) (.slice a2 k2 c2) := ⟨p1, p2, p3, p4⟩
  obtain ⟨q1, q2, q3, q4⟩ := hC.below lb hW0
  have g0 := (hS.keep hW0).c
  have gl := (hS.keep hW0).lt
  have hW1 : Below w.heap.size w (w.alloc (.cells #[.bool n1, .slice a1 k1 c1, .bool n2, .slice a2 k2 c2] 26)) := (by repeat (first | exact Below.refl _ _ | refine Below.alloc ?_ ?_ _ | refine Below.setCell ?_ ?_ _ | refine Below.drew ?_ | refine below_drewN ?_ _ | (· simp) | omega | (· simp; omega) | exact Below.size (by assumption) | assumption | refine below_call ?_ (by assumption) ?_))
  have HS := hid (pA.below hW1)
  have HB2 := hid hW1
  have bN : Box4 (w.alloc (.cells #[.bool n1, .slice a1 k1 c1, .bool n2, .slice a2 k2 c2] 26)) w.heap.size (.bool n1) (.slice a1 k1 c1) (.bool n2) (.slice a2 k2 c2) := Box4.new _ _ _ _ _ _ rfl
  have HN := hid bN.c
  clear bN hW1
  obtain ⟨r0, r1, r2, r3⟩ := bR.c
  have rf := bR.f
  have rl := bR.lt
  clear p1 p2 p3 p4 pA hA hkl hC hS bR
  generalize R[kk] = x at *
  go_enter Tryz.func157, Tryz.ntmps157
  go_wp2
  refine bodyPost_ret (v := .agg #[.bool n1, .slice a1 k1 c1, .bool n2, .slice a2 k2 c2]) ?_ rfl ⟨n1, a1, k1, c1, n2, a2, k2, c2, rfl, HS.out, HB2.out⟩
  obtain ⟨s0, s1, s2, s3⟩ := HN.out
  simp [results, Tryz.results157, go_sem, s0, s1, s2, s3]

/-- The k-th number of each row. -/
def colR (M : List (List Rat)) (k : Nat) : List Rat := M.map (fun R => R.getD k 0)
theorem QSl.off {W W' : World} {b o k c n g : Nat} {R : List Rat} (h : QSl W (.slice (some ⟨b, o, none⟩) k c) n R) (hne : b ≠ g) (hno : NoLimb W g) (hW : W.grownBy W' (some g)) : QSl W' (.slice (some ⟨b, o, none⟩) k c) n R := by
  obtain ⟨hk, h1, h2, h3⟩ := qsl_at h
  refine ⟨_, _, _, rfl, hk, h1, h2, ?_⟩
  rcases h3 with h3 | ⟨b', o', e, hlt, hc⟩
  · exact .inl h3
  · simp only [Option.some.injEq, Addr.mk.injEq, and_true] at e
    obtain ⟨rfl, rfl⟩ := e
    refine .inr ⟨b, o, rfl, Nat.lt_of_lt_of_le hlt hW.size, fun i hi => ?_⟩
    obtain ⟨n1, a1, k1, c1, n2, a2, k2, c2, q1, q2, q3, q4, q5⟩ := hc i hi
    exact ⟨n1, a1, k1, c1, n2, a2, k2, c2, hW.cell q1 (by simpa using hne), hW.cell q2 (by simpa using hne), hW.cell q3 (by simpa using hne), hW.cell q4 (by simpa using hne), q5.offL hno hW⟩
theorem colMap_any (w : World) (ao : Option Addr) (cap k n gk kk : Nat) (M : List (List Rat)) (hS : BoxS w gk (.int .i64 (kk : Int))) (hk : k = M.length) (hl : k ≤ 1000000) (hM : QTab w ao cap n M) (hw : ∀ R ∈ M, kk < R.length) :
    Calls Tryz.prog 137 #[.slice ao k cap, .func (.func 157) #[] #[.pointer (some ⟨gk, 0, none⟩)]] w (fun e w' => ∃ g, e = .returned (.slice (some ⟨g, 0, none⟩) k k) ∧ w.heap.size ≤ g ∧ QSl w' (.slice (some ⟨g, 0, none⟩) k k) n (colR M kk) ∧ Below w.heap.size w w') := by
  refine (mappedC_any w ao cap k n M _ (argG n (colR M kk)) (argG_stays _ _) hk hl hM (fun i h W x hb hx => ?_)).mono ?_
  · refine (col1_any W gk kk n i x M[i] (hS.keep hb) hx (hw _ (List.getElem_mem h))).mono ?_
    rintro e w' ⟨n1, a1, k1, c1, n2, a2, k2, c2, rfl, hI, hb2⟩
    refine ⟨n1, a1, k1, c1, n2, a2, k2, c2, rfl, fun h' => ?_, hb2⟩
    simp only [colR, List.getElem_map]
    rw [List.getD_eq_getElem?_getD, List.getElem?_eq_getElem (hw _ (List.getElem_mem h))]
    exact hI
  · rintro e w' ⟨g, rfl, hg, hQ, hG, hb⟩
    have hl2 : k = (colR M kk).length := by rw [colR, List.length_map]; exact hk
    obtain ⟨v, e, h1, -⟩ := qSl_of (w := w) ⟨g, rfl, hg, hQ, hG, hb⟩ hl2 (by unfold maxLen; omega)
    simp only [Ending.returned.injEq] at e
    exact ⟨g, rfl, hg, by rw [e]; exact h1, hb⟩

end Go.Proofs.YtmnlggmdomcajaaGreat

namespace Go.Proofs.YtmnlggmdomcajaaGreat
open Go.RowKit Lm
set_option linter.unusedSimpArgs false
set_option linter.unusedVariables false
set_option maxRecDepth 100000

theorem Tryz.infoRow : (Tryz.prog.info? 41).map (fun i => (i.zero, i.size, i.bytes)) = some (some (.slice none 0 0), 1, 24) := by kernel_rfl
/-- A block of k slices. -/
def SBlk (W : World) (g k : Nat) : Prop := ∃ cs : Array Value, W.heap[g]? = some (.cells cs 41 (0, 0)) ∧ cs.size = k ∧ ∀ (j : Nat) (z : Int), cs[j]? ≠ some (Value.int .u32 z)
theorem SBlk.lt {W : World} {g k : Nat} (h : SBlk W g k) : g < W.heap.size := by
  obtain ⟨cs, h, -, -⟩ := h
  exact (Array.getElem?_eq_some_iff.1 h).1
theorem SBlk.no {W : World} {g k : Nat} (h : SBlk W g k) : NoLimb W g := by
  obtain ⟨cs, h, -, h2⟩ := h
  intro j z
  rw [cell_of_row W g j cs _ _ h]
  exact h2 j z
theorem SBlk.f {W : World} {g k : Nat} (h : SBlk W g k) (i : Nat) : W.frozen? ⟨g, i, none⟩ = false := by
  obtain ⟨cs, h, -, -⟩ := h
  exact frozen_of_row W g i cs _ h
theorem SBlk.keep {W W' : World} {g k : Nat} (h : SBlk W g k) (hb : Below W.heap.size W W') : SBlk W' g k := by
  have hl := h.lt
  obtain ⟨cs, h, h2⟩ := h
  exact ⟨cs, (hb.block g hl).trans h, h2⟩
theorem SBlk.has {W : World} {g k : Nat} (h : SBlk W g k) (j : Nat) (hj : j < k) : ∃ u, W.cell? ⟨g, j, none⟩ = some u := by
  obtain ⟨cs, h, h2, -⟩ := h
  rw [cell_of_row W g j cs _ _ h, Array.getElem?_eq_getElem (by omega)]
  exact ⟨_, rfl⟩
theorem SBlk.set {W : World} {g k : Nat} (h : SBlk W g k) (i : Nat) (a : Option Addr) (l c : Nat) : SBlk (W.setCell ⟨g, i, none⟩ (.slice a l c)) g k := by
  obtain ⟨cs, h, h2, h3⟩ := h
  refine ⟨_, heap_setCell_same W g i cs _ _ h, by simpa using h2, fun j z => ?_⟩
  rw [Array.getElem?_setIfInBounds]
  split
  · split <;> simp
  · exact h3 j z
theorem made1 (W : World) (base k g : Nat) (h : W.ownsRow base 41 1 (.slice (some ⟨g, 0, none⟩) k k) k (madeCells (Value.slice none 0 0).cells (k * 1)).toList) : SBlk W g k := by
  have hl := h.1
  rcases h.2 with ⟨h', _⟩ | ⟨g', cap', cur, h', _, hg, _, _, hcs, htake⟩
  · simp at h'
  · simp only [Value.slice.injEq, Option.some.injEq, Addr.mk.injEq, and_true, true_and] at h'
    obtain ⟨rfl, rfl⟩ := h'
    refine ⟨cur, hg, by omega, fun j z e => ?_⟩
    rw [List.take_of_length_le (by rw [Array.length_toList]; omega), show (Value.slice none 0 0).cells = #[.slice none 0 0] from rfl, toList_madeCells_one] at htake
    obtain ⟨hj, e⟩ := Array.getElem?_eq_some_iff.1 e
    have hm : Value.int .u32 z ∈ cur.toList := by rw [← e]; simp
    rw [htake, List.mem_replicate] at hm
    simp at hm
def cols (M : List (List Rat)) (n : Nat) : List (List Rat) := (List.range n).map (colR M)
def ColRel (w : World) (n k s : Nat) (M : List (List Rat)) (iv : Value) (wr : World) : Prop := ∃ i : Nat, i ≤ n ∧ iv = .int .i64 i ∧ SBlk wr w.heap.size n ∧ (∀ j, j < i → ∃ g, wr.cell? ⟨w.heap.size, j, none⟩ = some (.slice (some ⟨g, 0, none⟩) k k) ∧ w.heap.size < g ∧ QSl wr (.slice (some ⟨g, 0, none⟩) k k) s (colR M j)) ∧ Below w.heap.size w wr

set_option maxHeartbeats 3200000 in
theorem columns_any (w : World) (ao : Option Addr) (cap k n s : Nat) (M : List (List Rat)) (hk : k = M.length) (hl : k ≤ 1000000) (hn : n ≤ 1000) (hM : QTab w ao cap s M) (hw : ∀ R ∈ M, R.length = n) :
    Calls Tryz.prog 140 #[.slice ao k cap, .int .i64 (n : Int)] w (fun e w' => ∃ g, e = .returned (.slice (some ⟨g, 0, none⟩) n n) ∧ QTab w' (some ⟨g, 0, none⟩) n s (cols M n) ∧ Below w.heap.size w w') := by
  obtain ⟨i0, hi, hz0, hz1, hz2⟩ := info_parts Tryz.infoRow
  have HK := hid hk
  have HM := hid hM
  have HW := hid hw
  clear hk hM hw
  go_enter Tryz.func140, Tryz.ntmps140
  go_wp2_with (at_make; go_must (refine wpList_make_full _ rfl _ _ 40 rfl w.heap.size 41 i0 (.slice none 0 0) 1 Tryz.underlying40 hi hz0 hz1 .i64 .i64 _ _ n rfl rfl (by omega) (by omega) (by rw [hz2]; omega) (by unfold maxLen; omega) (by simp) ?_); intro w1 hown hgrow; have hrow := made1 _ _ _ _ hown; have hb1 : Below w.heap.size w w1 := (Below.refl _ _).grown hgrow (Nat.le_refl _) (by simp); clear hown hgrow)
  go_loopw [11] (fun iv wr => ColRel w n k s M iv wr) (fun iv wr => n - (intOf iv).toNat)
  case atStart => exact ⟨0, Nat.zero_le _, rfl, hrow, fun j hj => by omega, hb1⟩
  case round =>
    obtain ⟨i, hin, rfl, hrw, hgot, hbw⟩ := hrel
    clear hrow hb1
    have HG := hid hgot
    clear hgot
    by_cases hlt : i < n
    · have hA0 : Below wr.heap.size wr (wr.alloc (.cells #[.int .i64 (i : Int)] 3)).drew := ((Below.refl _ _).alloc (Nat.le_refl _) _).drew
      have bK : BoxS (wr.alloc (.cells #[.int .i64 (i : Int)] 3)).drew wr.heap.size (.int .i64 (i : Int)) := BoxS.new _ _ _ _ rfl
      have HWi : Hid (∀ R ∈ M, i < R.length) := hid (fun R hR => by rw [HW.out R hR]; exact hlt)
      have hgw := hrw.lt
      go_wp2_with fail
      have HBA := hA0
      go_region_held3 (fun W' => W'.cell? ⟨wr.heap.size, 0, none⟩ = some (.int .i64 (i : Int))) (first | with_reducible exact bK.c | exact (World.cell?_setCell_far _ _ _ _ (Nat.ne_of_lt hgw)).trans bK.c) (first
        | (go_at_call 137; go_must (refine (colMap_any _ _ _ _ s _ i M bK HK.out hl (HM.out.below (below_call hbw HBA hbw.size)) HWi.out).mono ?_); rintro e w2 ⟨g, rfl, hg, hQ, hb⟩; have HBn := below_call HBA hb HBA.size; have bKn := bK.keep hb; clear HBA bK; have HBA := HBn; have bK := bKn; clear HBn bKn; have hB2 := hrw.keep HBA; have zf := hB2.f; obtain ⟨u0, z0⟩ := hB2.has i hlt; have zl := hB2.lt))
      have HS1 := hid (hB2.set i (some ⟨g, 0, none⟩) k k)
      have hgr : w2.grownBy (w2.setCell ⟨w.heap.size, i, none⟩ (.slice (some ⟨g, 0, none⟩) k k)) (some w.heap.size) := grow_set (grow_refl _ _) _ _
      have hgt : w.heap.size < g := by simp at hg; omega
      have HQ := hid (hQ.off (Nat.ne_of_gt hgt) hB2.no hgr)
      have HN := hid (set_near (.slice (some ⟨g, 0, none⟩) k k) z0)
      have HO : Hid (∀ j, j < i → ∃ g', (w2.setCell ⟨w.heap.size, i, none⟩ (.slice (some ⟨g, 0, none⟩) k k)).cell? ⟨w.heap.size, j, none⟩ = some (.slice (some ⟨g', 0, none⟩) k k) ∧ w.heap.size < g' ∧ QSl (w2.setCell ⟨w.heap.size, i, none⟩ (.slice (some ⟨g, 0, none⟩) k k)) (.slice (some ⟨g', 0, none⟩) k k) s (colR M j)) := hid (fun j hj => by
        obtain ⟨g', h1, h2, h3⟩ := HG.out j hj
        exact ⟨g', by rw [set_far _ _ _ _ _ (by omega)]; exact (bcells HBA _ _ hgw).trans h1, h2, (h3.below HBA).off (Nat.ne_of_gt h2) hB2.no hgr⟩)
      have HB := hid ((below_call hbw HBA hbw.size).setCell (p := ⟨w.heap.size, i, none⟩) (Nat.le_refl _) (.slice (some ⟨g, 0, none⟩) k k))
      have HGT := hid hgt
      clear hQ hb HBA bK hB2 z0 zf zl hg hbw hrw HG hA0 hgr hgt
      go_wp2
      go_roundw
      case rel =>
        refine ⟨i + 1, by omega, by go_num, HS1.out, fun j hj => ?_, HB.out⟩
        by_cases hj2 : j = i
        · subst hj2; exact ⟨g, HN.out, HGT.out, HQ.out⟩
        · exact HO.out j (by omega)
      case measure => simp [intOf]; omega
    · have hke : i = n := by omega
      subst hke
      have HR : Hid (QTab wr (some ⟨w.heap.size, 0, none⟩) i s (cols M i)) := hid (by
        refine ⟨by simp [cols], by unfold maxLen; omega, .inr ⟨w.heap.size, 0, rfl, hrw.lt, fun j hj => ?_⟩⟩
        have hj' : j < i := by simpa [cols] using hj
        obtain ⟨g, h1, h2, h3⟩ := HG.out j hj'
        exact ⟨_, _, _, by rw [Nat.zero_add]; exact h1, by simpa [cols] using h3⟩)
      have HB := hid hbw
      clear hrw hbw HG
      go_wp2
      go_ret
      exact ⟨_, rfl, HR.out, HB.out⟩

end Go.Proofs.YtmnlggmdomcajaaGreat

namespace Go.Proofs.YtmnlggmdomcajaaGreat
open Go.RowKit Lm
set_option linter.unusedSimpArgs false
set_option linter.unusedVariables false
set_option maxRecDepth 100000

theorem wide_all {M : List (List Rat)} {n : Nat} (h : wide M n = true) : ∀ R ∈ M, R.length = n := by
  intro R hR
  unfold wide at h
  rw [List.all_eq_true] at h
  have := of_decide_eq_true (h R hR)
  omega

set_option maxHeartbeats 1600000 in
theorem Left_any (w : World) (yo ao : Option Addr) (k cy ca n s m : Nat) (M : List (List Rat)) (Y : List Rat) (hk : k = M.length) (hl : k ≤ 1000000) (hn : n ≤ 1000) (hM : QTab w ao ca s M) (hY : QSl w (.slice yo k cy) m Y) (hw : wide M n = true) (hs : 1 ≤ s) (hm : 1 ≤ m) (hz : (s + m) * k ≤ 14000) :
    Calls Tryz.prog 110 #[.slice yo k cy, .slice ao k ca, .int .i64 (n : Int)] w (QPair ((s + m) * k + 1) (timesR (cols M n) Y) w) := by
  have HY := hid hY
  have HM := hid hM
  have HK := hid hk
  have HW := hid hw
  have HZ := hid hz
  have HYL : Hid (k = Y.length) := hid hY.len.1
  clear hY hM hk hw hz
  have f1 : ¬ (n : Int) < 0 := by omega
  have f2 : ¬ (1000 : Int) < (n : Int) := by omega
  go_enter Tryz.func110, Tryz.ntmps110
  go_wp2_with fail
  refine (areOf_any _ _ _ _ s _ M HK.out HM.out).mono ?_
  rintro e w1 ⟨rfl, rfl⟩
  rw [HW.out]
  go_wp2_with fail
  refine (columns_any _ _ _ _ n s M HK.out hl hn HM.out (wide_all HW.out)).mono ?_
  rintro e w2 ⟨g, rfl, hT, hb⟩
  have HC : Hid (n = (cols M n).length) := hid (by simp [cols])
  go_wp2_with fail
  refine (vtimes_any _ _ _ _ _ _ _ s m (cols M n) Y HC.out (by omega) hT (HY.out.below hb) ?_ hs hm (by rw [← HYL.out]; exact HZ.out)).mono ?_
  · intro R hR
    obtain ⟨j, -, rfl⟩ := List.mem_map.1 hR
    rw [colR, List.length_map, ← HYL.out]
    exact HK.out.symm
  rintro e w3 ⟨ra, rk, rc, rfl, hrk, hQ, hb3⟩
  rw [← HYL.out] at hQ
  have HR : Hid (QPair ((s + m) * k + 1) (timesR (cols M n) Y) w1 (.returned (.tuple #[.slice ra rk rc, .int .i64 0])) w3) := ⟨_, _, _, rfl, hrk, hQ, below_call hb hb3 hb.size⟩
  clear hQ hb hb3 hT HY HM hrk HC
  go_wp2
  refine bodyPost_ret (v := .tuple #[.slice ra rk rc, .int .i64 0]) ?_ rfl HR.out
  simp [results, Tryz.results110, go_sem]

set_option maxHeartbeats 1600000 in
theorem Left_no (w : World) (yo ao : Option Addr) (ky k cy ca s : Nat) (n : Int) (M : List (List Rat)) (hk : k = M.length) (hky : ky ≤ 9223372036854775807) (hM : QTab w ao ca s M) (hw : n < 0 ∨ 1000 < n ∨ ky ≠ k ∨ wide M n = false) :
    Calls Tryz.prog 110 #[.slice yo ky cy, .slice ao k ca, .int .i64 n] w (fun e w' => e = .returned (.tuple #[.slice none 0 0, .int .i64 1]) ∧ Below w.heap.size w w') := by
  have hk64 : k ≤ 9223372036854775807 := by have := hM.len; omega
  have HM := hid hM
  have HK := hid hk
  clear hM hk
  by_cases f1 : n < 0
  · clear hw
    go_enter Tryz.func110, Tryz.ntmps110
    go_wp2
    refine bodyPost_ret (v := .tuple #[.slice none 0 0, .int .i64 1]) ?_ rfl ⟨rfl, Below.refl _ _⟩
    simp [results, Tryz.results110, go_sem]
  · by_cases f2 : 1000 < n
    · clear hw
      go_enter Tryz.func110, Tryz.ntmps110
      go_wp2
      refine bodyPost_ret (v := .tuple #[.slice none 0 0, .int .i64 1]) ?_ rfl ⟨rfl, Below.refl _ _⟩
      simp [results, Tryz.results110, go_sem]
    · by_cases f3 : ky = k
      · have HW : Hid (wide M n = false) := hid (by
          rcases hw with h | h | h | h
          · omega
          · omega
          · exact absurd f3 h
          · exact h)
        clear hw
        subst f3
        go_enter Tryz.func110, Tryz.ntmps110
        go_wp2_with fail
        refine (areOf_any _ _ _ _ s _ M HK.out HM.out).mono ?_
        rintro e w1 ⟨rfl, rfl⟩
        rw [HW.out]
        go_wp2
        refine bodyPost_ret (v := .tuple #[.slice none 0 0, .int .i64 1]) ?_ rfl ⟨rfl, Below.refl _ _⟩
        simp [results, Tryz.results110, go_sem]
      · clear hw
        have hne : ((ky : Int) != (k : Int)) = true := by simp; omega
        go_enter Tryz.func110, Tryz.ntmps110
        go_wp2
        refine bodyPost_ret (v := .tuple #[.slice none 0 0, .int .i64 1]) ?_ rfl ⟨rfl, Below.refl _ _⟩
        simp [results, Tryz.results110, go_sem]

end Go.Proofs.YtmnlggmdomcajaaGreat

namespace Go.Proofs.YtmnlggmdomcajaaGreat
open Go.RowKit Lm
set_option linter.unusedSimpArgs false
set_option linter.unusedVariables false
set_option maxRecDepth 100000

theorem wpList_append_is {ops : Array Oper} {rest : List Oper} {o : Oper} {ac : Act} {W : World} {Q : Exit → Act → World → Prop}
    (hgd : o.guard = none) (s x : Operand) (hop : o.op = Op.call { callee := Callee.builtin Builtin.append, args := #[s, x], argTypes := #[41, 41] })
    (base : Nat) (v : Value) (N : Nat) (R : List Rat) (r : Rat) (hs : ac.eval s = v) (hO : OwnIs W base v N R) (g : Nat) (m7 m8 : Bool) (d7 d8 : Option Addr) (j7 e7 j8 e8 : Nat) (hx : ac.eval x = .slice (some ⟨g, 0, none⟩) 1 1) (hB : Box4 W g (.bool m7) (.slice d7 j7 e7) (.bool m8) (.slice d8 j8 e8)) (hq : RIs W 0 (.agg #[.bool m7, .slice d7 j7 e7, .bool m8, .slice d8 j8 e8]) N r) (hk : R.length ≤ 1000) (hbase : base ≤ W.heap.size)
    (hK : ∀ ro rc w', OwnIs w' base (.slice ro (R.length + 1) rc) N (R ++ [r]) → (∀ B u, B ≤ base → Below B u W → Below B u w') → wpList Tryz.prog ops Q rest (ac.put o.dst (.slice ro (R.length + 1) rc)) w') : wpList Tryz.prog ops Q (o :: rest) ac W := by
  obtain ⟨L, hL1, hQ1, hall1⟩ := hO
  refine wpList_append_q hgd s x hop base v L hs hQ1 ⟨g, 0, none⟩ 1 1 [⟨m7, d7, j7, e7, m8, d8, j8, e8⟩] hx rfl (news_one hB) (by simp; omega) hbase ?_
  intro v' w' hO' hg
  have hN := OwnIs.snoc (q := ⟨m7, d7, j7, e7, m8, d8, j8, e8⟩) hL1 hQ1 hall1 hq hO' hg
  obtain ⟨ro, rc, rfl⟩ := hN.shape
  simp only [List.length_append, List.length_cons, List.length_nil, Nat.zero_add] at hN ⊢
  exact hK ro rc w' hN (fun B u hB' hb => hb.grown hg (by have := hb.size; omega) (fun q e => by have := (hQ1.1.lt q e).1; omega))

/-- The answer of Times. -/
def TimesSay (N : Nat) (M : List (List Rat)) (X : List Rat) (w : World) (e : Ending) (w' : World) : Prop :=
  (wide M X.length = true ∧ QPair N (timesR M X) w e w') ∨ (wide M X.length = false ∧ e = .returned (.tuple #[.slice none 0 0, .int .i64 1]) ∧ Below w.heap.size w w')

set_option maxHeartbeats 3200000 in
theorem rtimes_any (w : World) (ao xo : Option Addr) (k ca kx cx n m : Nat) (M : List (List Rat)) (X : List Rat) (hk : k = M.length) (hl : k ≤ 900) (hM : QTab w ao ca n M) (hX : QSl w (.slice xo kx cx) m X) (hn : 1 ≤ n) (hm : 1 ≤ m) (hs : (n + m) * kx ≤ 4000) :
    Calls Tryz.prog 61 #[.slice ao k ca, .slice xo kx cx] w (TimesSay ((n + m) * kx + 1) M X w) := by
  obtain ⟨hkx, hkx64⟩ := hX.len
  have HM := hid hM
  have HX := hid hX
  have HK := hid hk
  have HKX := hid hkx
  have HSZ := hid hs
  clear hM hX hk hs hkx
  go_enter Tryz.func61, Tryz.ntmps61
  go_wp2
  go_loopw [6, 7] (fun ov iv wr => ∃ i : Nat, i ≤ k ∧ iv = .int .i64 i ∧ OwnIs wr w.heap.size ov ((n + m) * kx + 1) (timesR (M.take i) X) ∧ (∀ j (hj : j < M.length), j < i → M[j].length = kx) ∧ Below w.heap.size w wr) (fun ov iv wr => k - (intOf iv).toNat)
  case atStart => exact ⟨0, Nat.zero_le _, rfl, by simpa [timesR] using ownIs_nil _ _ _, fun j hj h => by omega, Below.refl _ _⟩
  case round =>
    obtain ⟨i, hik, rfl, hO, hall, HBW⟩ := hrel
    have HL := hid hall
    clear hall
    by_cases hlt : i < k
    · have hi' : i < M.length := by rw [← HK.out]; exact hlt
      obtain ⟨b1, o1, rfl, l1, hc⟩ := HM.out.at (by omega)
      obtain ⟨a, kr, cr, hcell, hq⟩ := hc i hi'
      replace hcell := (bcells HBW _ _ l1).trans hcell
      obtain ⟨hkr, hkm⟩ := hq.len
      have HQ := hid (hq.below HBW)
      have HKR := hid hkr
      have HR0 : Hid ((timesR (M.take i) X).length ≤ 1000) := hid (by rw [timesR, List.length_map, List.length_take]; omega)
      have HE : Hid (timesR (M.take (i + 1)) X = timesR (M.take i) X ++ [dotR M[i] X]) := hid (by unfold timesR; rw [List.take_succ_eq_append_getElem hi', List.map_append]; rfl)
      clear hc hq hkr
      obtain ⟨ov1, ov2, rfl⟩ := hO.shape
      by_cases hr : kr = kx
      · subst hr
        go_wp2_with fail
        refine (rdot_any _ _ _ kr _ _ n m M[i] X HKR.out HKX.out (qsl_at HQ.out).2 (qsl_at (HX.out.below HBW)).2 hn hm HSZ.out).mono ?_
        rintro e w2 ⟨n1, a1, k1, c1, n2, a2, k2, c2, rfl, hI, hb⟩
        generalize timesR (M.take i) X = R0 at *
        have hA2 : Below w2.heap.size w2 ((w2.alloc (.cells #[.bool n1, .slice a1 k1 c1, .bool n2, .slice a2 k2 c2] 26)).alloc (.cells #[.bool n1, .slice a1 k1 c1, .bool n2, .slice a2 k2 c2] 26)) := (by repeat (first | exact Below.refl _ _ | refine Below.alloc ?_ ?_ _ | refine Below.setCell ?_ ?_ _ | refine Below.drew ?_ | refine below_drewN ?_ _ | (· simp) | omega | (· simp; omega) | exact Below.size (by assumption) | assumption | refine below_call ?_ (by assumption) ?_))
        have hO2 := (hO.below hb).below hA2
        have HB2 := below_call (below_call HBW hb HBW.size) hA2 (below_call HBW hb HBW.size).size
        have hI2 := hI.below hA2
        have bN : Box4 ((w2.alloc (.cells #[.bool n1, .slice a1 k1 c1, .bool n2, .slice a2 k2 c2] 26)).alloc (.cells #[.bool n1, .slice a1 k1 c1, .bool n2, .slice a2 k2 c2] 26)) (w2.heap.size + 1) (.bool n1) (.slice a1 k1 c1) (.bool n2) (.slice a2 k2 c2) := Box4.new _ _ _ _ _ _ (by simp)
        clear hI hb hO HBW hA2
        have HO2 := hid hO2
        have HI2 := hid hI2
        clear hO2 hI2 hcell
        go_wp2_with (at_builtin; go_must (refine wpList_append_is rfl _ _ rfl w.heap.size _ ((n + m) * kr + 1) R0 (dotR M[i] X) rfl HO2.out (w2.heap.size + 1) n1 n2 a1 a2 k1 c1 k2 c2 rfl bN HI2.out HR0.out HB2.size ?_); intro ro rc w6 hN hB6)
        have HN := hid hN
        have HB6 := hid (hB6 _ _ (Nat.le_refl _) HB2)
        clear hN hB6 HB2 bN HO2 HI2
        go_wp2
        go_roundw
        case rel =>
          refine ⟨i + 1, by omega, by go_num, by rw [HE.out]; exact HN.out, fun j hj hji => ?_, HB6.out⟩
          by_cases hj2 : j = i
          · subst hj2; exact HKR.out.symm
          · exact HL.out j hj (by omega)
        case measure => simp [intOf]; omega
      · have HF : Hid (wide M X.length = false) := hid (by
          unfold wide
          rw [List.all_eq_false]
          refine ⟨M[i], List.getElem_mem hi', ?_⟩
          have e1 := HKR.out
          have e2 := HKX.out
          simp
          omega)
        go_wp2_with fail
        refine (rdot_no _ _ _ kr kx _ _ hr hkm hkx64).mono ?_
        rintro e w2 ⟨rfl, hb⟩
        have HB := hid ((below_call HBW hb HBW.size).alloc (below_call HBW hb HBW.size).size (.cells #[.bool false, .slice none 0 0, .bool false, .slice none 0 0] 26))
        clear hb HBW hO HQ hcell
        go_wp2
        refine bodyPost_ret (v := .tuple #[.slice none 0 0, .int .i64 1]) ?_ rfl (.inr ⟨HF.out, rfl, HB.out⟩)
        simp [results, Tryz.results61, go_sem]
    · have hke : i = k := by omega
      subst hke
      have HF : Hid (wide M X.length = true) := hid (by
        unfold wide
        rw [List.all_eq_true]
        intro R hR
        obtain ⟨j, hj, rfl⟩ := List.getElem_of_mem hR
        have e1 := HL.out j hj (by have := HK.out; omega)
        have e2 := HKX.out
        exact decide_eq_true (by omega))
      have HE : Hid (timesR (M.take i) X = timesR M X) := hid (by rw [List.take_of_length_le (by rw [← HK.out]; omega)])
      rw [HE.out] at hO
      obtain ⟨ro, rc, rfl, hQ⟩ := hO.qis
      have HR : Hid (TimesSay ((n + m) * kx + 1) M X w (.returned (.tuple #[.slice ro (timesR M X).length rc, .int .i64 0])) wr) := .inl ⟨HF.out, ro, _, rc, rfl, rfl, hQ, HBW⟩
      clear hO hQ HBW
      go_wp2
      refine bodyPost_ret (v := .tuple #[.slice ro (timesR M X).length rc, .int .i64 0]) ?_ rfl HR.out
      simp [results, Tryz.results61, go_sem]

end Go.Proofs.YtmnlggmdomcajaaGreat

namespace Go.Proofs.YtmnlggmdomcajaaGreat
open Go.RowKit Lm
set_option linter.unusedSimpArgs false
set_option linter.unusedVariables false
set_option maxRecDepth 100000

/-- The sums of the first i rows. -/
def leftR (M : List (List Rat)) (Y : List Rat) (n i : Nat) : List Rat := (List.range n).map (fun c => dotR ((colR M c).take i) (Y.take i))
theorem leftR_zero (M : List (List Rat)) (Y : List Rat) (n : Nat) : leftR M Y n 0 = List.replicate n 0 := by
  unfold leftR
  simp only [List.take_zero, dotR_nil]
  apply List.ext_getElem
  · simp
  · intro j h1 h2; simp
theorem leftR_len (M : List (List Rat)) (Y : List Rat) (n i : Nat) : (leftR M Y n i).length = n := by simp [leftR]
theorem leftR_next {M : List (List Rat)} {Y : List Rat} {n i : Nat} (hM : i < M.length) (hY : i < Y.length) (hl : M.length = Y.length) (hw : M[i].length = n) : plusR (leftR M Y n i) Y[i] M[i] = leftR M Y n (i + 1) := by
  apply List.ext_getElem
  · rw [plusR_len (by rw [leftR_len, hw]), leftR_len, leftR_len]
  · intro c h1 h2
    have hc : c < n := by rwa [leftR_len] at h2
    rw [plusR_at h1 (by rw [leftR_len]; exact hc) (by rw [hw]; exact hc)]
    simp only [leftR, List.getElem_map, List.getElem_range]
    have hcl : (colR M c).length = M.length := by simp [colR]
    rw [dotR_take (colR M c) Y i (by omega) (by omega)]
    have e : (colR M c)[i]'(by omega) = M[i][c]'(by omega) := by
      simp only [colR, List.getElem_map]
      rw [List.getD_eq_getElem?_getD, List.getElem?_eq_getElem (by omega)]
      rfl
    rw [e, Rat.mul_comm]
theorem leftR_end {M : List (List Rat)} {Y : List Rat} {n : Nat} (hl : M.length = Y.length) : leftR M Y n M.length = timesR (cols M n) Y := by
  unfold leftR timesR cols
  rw [List.map_map]
  apply List.map_congr_left
  intro c _
  show dotR _ _ = dotR (colR M c) Y
  rw [List.take_of_length_le (by simp [colR]), List.take_of_length_le (by omega)]
theorem sz_zero {n : Nat} (hn : 1 ≤ n) : Sz n 0 := by
  have := pw_mono hn
  have e : pw 1 = 4294967296 := rfl
  exact ⟨by show 0 < pw n; omega, by show 1 < pw n; omega⟩
theorem leftR_sz {M : List (List Rat)} {Y : List Rat} {n i s m k : Nat} (hk : k = M.length) (hl : M.length = Y.length) (hi : i ≤ k) (hs : 1 ≤ s) (hz : (s + m) * k ≤ 4000) (hM : ∀ R ∈ M, ∀ r ∈ R, Sz s r) (hY : ∀ r ∈ Y, Sz m r) : ∀ r ∈ leftR M Y n i, Sz ((s + m) * k + 1) r := by
  intro r hr
  obtain ⟨c, -, rfl⟩ := List.mem_map.1 hr
  have hcl : (colR M c).length = M.length := by simp [colR]
  have h1 : ((colR M c).take i).length = i := by rw [List.length_take]; omega
  have h2 : (Y.take i).length = i := by rw [List.length_take]; omega
  have hki : i < 4294967296 := by have := Nat.mul_le_mul_right k (show 1 ≤ s + m by omega); omega
  have := dotR_sz (n := s) (m := m) ((colR M c).take i) (Y.take i) (h1.trans h2.symm) (by omega) (fun r hr => by
    have hr := List.mem_of_mem_take hr
    obtain ⟨R, hR, rfl⟩ := List.mem_map.1 hr
    by_cases hc : c < R.length
    · rw [List.getD_eq_getElem?_getD, List.getElem?_eq_getElem hc]
      exact hM R hR _ (List.getElem_mem hc)
    · rw [List.getD_eq_getElem?_getD, List.getElem?_eq_none (by omega)]
      exact sz_zero hs) (fun r hr => hY r (List.mem_of_mem_take hr))
  rw [h1] at this
  exact this.mono (by have := Nat.mul_le_mul_left (s + m) hi; omega)
theorem QTab.sz {w : World} {ao : Option Addr} {cap s : Nat} {M : List (List Rat)} (h : QTab w ao cap s M) (hs : 1 ≤ s) : ∀ R ∈ M, ∀ r ∈ R, Sz s r := by
  intro R hR
  obtain ⟨j, hj, rfl⟩ := List.getElem_of_mem hR
  obtain ⟨b, o, -, -, hc⟩ := h.at (by omega)
  obtain ⟨a, k, c, -, hq⟩ := hc j hj
  exact (qsl_at hq).2.sz hs

theorem keepY {w W : World} {b o b' o' : Nat} {p q r s c : Value} (h : At4 w b o p q r s) (hl : b < w.heap.size) (h' : w.cell? ⟨b', o', none⟩ = some c) (hl' : b' < w.heap.size) (hb : Below w.heap.size w W) :
    W.cell? ⟨b, o, none⟩ = some p ∧ W.cell? ⟨b, o + 1, none⟩ = some q ∧ W.cell? ⟨b, o + 2, none⟩ = some r ∧ W.cell? ⟨b, o + 3, none⟩ = some s ∧ W.cell? ⟨b', o', none⟩ = some c := by
  obtain ⟨h1, h2, h3, h4⟩ := h.below hl hb
  exact ⟨h1, h2, h3, h4, (bcells hb _ _ hl').trans h'⟩
def LeftSay (N : Nat) (M : List (List Rat)) (Y : List Rat) (n : Nat) (w : World) (e : Ending) (w' : World) : Prop :=
  (wide M n = true ∧ QPair N (timesR (cols M n) Y) w e w') ∨ (wide M n = false ∧ e = .returned (.tuple #[.slice none 0 0, .int .i64 1]) ∧ Below w.heap.size w w')

set_option maxHeartbeats 6400000 in
theorem rleft_any (w : World) (yo ao : Option Addr) (k cy ca n s m : Nat) (M : List (List Rat)) (Y : List Rat) (hk : k = M.length) (hl : k ≤ 900) (hn : n ≤ 1000) (hM : QTab w ao ca s M) (hY : QSl w (.slice yo k cy) m Y) (hs : 1 ≤ s) (hm : 1 ≤ m) (hs2 : s ≤ 500) (hm2 : m ≤ 500) (hz : (s + m) * k ≤ 4000) :
    Calls Tryz.prog 115 #[.slice yo k cy, .slice ao k ca, .int .i64 (n : Int)] w (LeftSay ((s + m) * k + 1) M Y n w) := by
  obtain ⟨hyl, -⟩ := hY.len
  have HSZ : Hid (∀ i, i ≤ k → ∀ r ∈ leftR M Y n i, Sz ((s + m) * k + 1) r) := hid (fun i hi => leftR_sz hk (hk.symm.trans hyl) hi hs hz (hM.sz hs) ((qsl_at hY).2.sz hm))
  have HM := hid hM
  have HY := hid hY
  have HK := hid hk
  have HYL := hid hyl
  have hN : (s + m) * k + 1 ≤ 5000 ∧ 1 ≤ (s + m) * k + 1 := by omega
  obtain ⟨hN1, hN2⟩ := hN
  clear hM hY hk hz hyl
  generalize (s + m) * k + 1 = N at *
  have f1 : ¬ (n : Int) < 0 := by omega
  have f2 : ¬ (1000 : Int) < (n : Int) := by omega
  go_enter Tryz.func115, Tryz.ntmps115
  go_wp2
  go_loopw [8, 9] (fun ov iv wr => ∃ c : Nat, c ≤ n ∧ iv = .int .i64 c ∧ OwnIs wr w.heap.size ov N (List.replicate c 0) ∧ Below w.heap.size w wr) (fun ov iv wr => n - (intOf iv).toNat)
  case atStart => exact ⟨0, Nat.zero_le _, rfl, ownIs_nil _ _ _, Below.refl _ _⟩
  case round =>
    obtain ⟨c, hcn, rfl, hO, HBW⟩ := hrel
    by_cases hlt : c < n
    · obtain ⟨ov1, ov2, rfl⟩ := hO.shape
      have HR0 : Hid ((List.replicate c (0 : Rat)).length ≤ 1000) := hid (by rw [List.length_replicate]; omega)
      have HE : Hid (List.replicate (c + 1) (0 : Rat) = List.replicate c 0 ++ [0]) := hid List.replicate_succ'
      have HZ := hid (sz_zero hN2)
      generalize List.replicate c (0 : Rat) = R0 at *
      go_wp2_with fail
      refine (nought_any _).mono ?_
      rintro e w2 ⟨n1, a1, k1, c1, n2, a2, k2, c2, rfl, hI, hb⟩
      have hA2 : Below w2.heap.size w2 (w2.alloc (.cells #[.bool n1, .slice a1 k1 c1, .bool n2, .slice a2 k2 c2] 26)) := (by repeat (first | exact Below.refl _ _ | refine Below.alloc ?_ ?_ _ | refine Below.setCell ?_ ?_ _ | refine Below.drew ?_ | refine below_drewN ?_ _ | (· simp) | omega | (· simp; omega) | exact Below.size (by assumption) | assumption | refine below_call ?_ (by assumption) ?_))
      have HO2 := hid ((hO.below hb).below hA2)
      have HB2 := below_call (below_call HBW hb HBW.size) hA2 (below_call HBW hb HBW.size).size
      have HI2 := hid ((hI.below hA2).tight HZ.out.1 HZ.out.2)
      have bN : Box4 (w2.alloc (.cells #[.bool n1, .slice a1 k1 c1, .bool n2, .slice a2 k2 c2] 26)) w2.heap.size (.bool n1) (.slice a1 k1 c1) (.bool n2) (.slice a2 k2 c2) := Box4.new _ _ _ _ _ _ rfl
      clear hI hb hO HBW hA2
      go_wp2_with (at_builtin; go_must (refine wpList_append_is rfl _ _ rfl w.heap.size _ N R0 0 rfl HO2.out w2.heap.size n1 n2 a1 a2 k1 c1 k2 c2 rfl bN HI2.out HR0.out HB2.size ?_); intro ro rc w6 hN hB6)
      have HN := hid hN
      have HB6 := hid (hB6 _ _ (Nat.le_refl _) HB2)
      clear hN hB6 HB2 bN HO2 HI2
      go_wp2
      go_roundw
      case rel => exact ⟨c + 1, by omega, by go_num, by rw [HE.out]; exact HN.out, HB6.out⟩
      case measure => simp [intOf]; omega
    · have hke : c = n := by omega
      subst hke
      obtain ⟨ov1, ov2, rfl, hQ⟩ := hO.qis
      have HQ0 := hid hQ
      have HB0 := hid HBW
      clear hO hQ HBW
      have HLn : Hid ((List.replicate c (0 : Rat)).length = c) := hid List.length_replicate
      go_wp2
      go_loopw [8, 10] (fun ov iv wr => ∃ i : Nat, i ≤ k ∧ iv = .int .i64 i ∧ (∃ a1 a2, ov = .slice a1 c a2) ∧ QIs wr ov N (leftR M Y c i) ∧ (∀ j (hj : j < M.length), j < i → M[j].length = c) ∧ Below w.heap.size w wr) (fun ov iv wr => k - (intOf iv).toNat)
      case atStart => exact ⟨0, Nat.zero_le _, rfl, ⟨ov1, ov2, by rw [HLn.out]⟩, by rw [leftR_zero]; exact HQ0.out, fun j hj h => by omega, HB0.out⟩
      case round =>
        clear HQ0 HB0 HLn
        obtain ⟨i, hik, rfl, ⟨ov3, ov4, rfl⟩, hQ, hall, HBW⟩ := hrel
        have HL := hid hall
        clear hall
        by_cases hlt2 : i < k
        · have hi' : i < M.length := by rw [← HK.out]; exact hlt2
          have hiY : i < Y.length := by rw [← HYL.out]; exact hlt2
          obtain ⟨b1, o1, rfl, l1, hc⟩ := HM.out.at (by omega)
          obtain ⟨a, kr, cr, hcell, hq⟩ := hc i hi'
          obtain ⟨hkr, hkm⟩ := hq.len
          have HKR := hid hkr
          have HRow := hid hq
          clear hc hq hkr
          by_cases hr : kr = c
          · subst hr
            obtain ⟨b2, o2, rfl, l2⟩ := (qsl_at HY.out).2.spot (by omega)
            obtain ⟨n3, a3, k3, c3, n4, a4, k4, c4, q1, q2, q3, q4, pB⟩ := ((qsl_at HY.out).2.at i hiY).1
            have hC2 : At4 w b2 (o2 + i * 4) (.bool n3) (.slice a3 k3 c3) (.bool n4) (.slice a4 k4 c4) := ⟨q1, q2, q3, q4⟩
            have HP := hid pB
            have HE : Hid (plusR (leftR M Y kr i) Y[i] M[i] = leftR M Y kr (i + 1)) := hid (leftR_next hi' hiY (HK.out.symm.trans HYL.out) HKR.out.symm)
            have HZ : Hid (∀ r ∈ plusR (leftR M Y kr i) Y[i] M[i], Sz N r) := hid (by rw [HE.out]; exact HSZ.out (i + 1) hlt2)
            have HLL : Hid (kr = (leftR M Y kr i).length) := hid (leftR_len M Y kr i).symm
            have HPL : Hid ((plusR (leftR M Y kr i) Y[i] M[i]).length = kr) := hid (by rw [HE.out]; exact leftR_len _ _ _ _)
            have HMi : Hid (∀ hj : i < M.length, M[i].length = kr) := hid (fun _ => HKR.out.symm)
            have HQ := hid hQ
            clear q1 q2 q3 q4 pB hQ
            have hcell2 := (bcells HBW _ _ l1).trans hcell
            generalize Y[i] = y at *
            generalize M[i] = Ri at *
            generalize leftR M Y kr i = L0 at *
            go_wp2_with fail
            have HBA : Below wr.heap.size wr wr.drew := (Below.refl _ _).drew
            go_region_held3 (fun W' => W'.cell? ⟨b2, o2 + i * 4, none⟩ = some (.bool n3) ∧ W'.cell? ⟨b2, o2 + i * 4 + 1, none⟩ = some (.slice a3 k3 c3) ∧ W'.cell? ⟨b2, o2 + i * 4 + 2, none⟩ = some (.bool n4) ∧ W'.cell? ⟨b2, o2 + i * 4 + 3, none⟩ = some (.slice a4 k4 c4) ∧ W'.cell? ⟨b1, o1 + i, none⟩ = some (.slice a kr cr)) (exact keepY hC2 l2 hcell l1 (below_call HBW HBA HBW.size)) (first
              | (go_at_call 141; go_must (refine (rplus_any _ _ _ _ kr _ _ N m s N y L0 Ri (HP.out.below (below_call HBW HBA HBW.size)) HLL.out HKR.out (qsl_at (HQ.out.below HBA).sl).2 (qsl_at (HRow.out.below (below_call HBW HBA HBW.size))).2 hN1 hm2 hs2 hn hN2 HZ.out).mono ?_); rintro e w2 ⟨ra, rk, rc, rfl, hrk, hQ2, hb⟩; obtain rfl : kr = rk := (hrk.trans HPL.out).symm; clear hrk; have HBn := below_call HBA hb HBA.size; clear HBA hb; have HBA := HBn; clear HBn))
            rw [HE.out] at hQ2
            have HQ3 := hid hQ2
            have HB := hid (below_call HBW HBA HBW.size)
            clear hQ2 HBA HBW hcell hcell2
            go_wp2
            go_roundw
            case rel =>
              refine ⟨i + 1, by omega, by go_num, ⟨_, _, rfl⟩, HQ3.out, fun j hj hji => ?_, HB.out⟩
              by_cases hj2 : j = i
              · subst hj2; exact HMi.out hj
              · exact HL.out j hj (by omega)
            case measure => simp [intOf]; omega
          · have HF : Hid (wide M c = false) := hid (by
              unfold wide
              rw [List.all_eq_false]
              refine ⟨M[i], List.getElem_mem hi', ?_⟩
              have e1 := HKR.out
              simp
              omega)
            have hne : ((kr : Int) != (c : Int)) = true := by simp; omega
            have HB := hid HBW
            have hcell2 := (bcells HBW _ _ l1).trans hcell
            clear HBW hQ hr HRow hcell
            go_wp2
            refine bodyPost_ret (v := .tuple #[.slice none 0 0, .int .i64 1]) ?_ rfl (.inr ⟨HF.out, rfl, HB.out⟩)
            simp [results, Tryz.results115, go_sem]
        · have hke : i = k := by omega
          subst hke
          have HF : Hid (wide M c = true) := hid (by
            unfold wide
            rw [List.all_eq_true]
            intro R hR
            obtain ⟨j, hj, rfl⟩ := List.getElem_of_mem hR
            have e1 := HL.out j hj (by have := HK.out; omega)
            exact decide_eq_true (by omega))
          have HE : Hid (leftR M Y c i = timesR (cols M c) Y) := hid (by rw [HK.out]; exact leftR_end (HK.out.symm.trans HYL.out))
          rw [HE.out] at hQ
          have HR : Hid (LeftSay N M Y c w (.returned (.tuple #[.slice ov3 c ov4, .int .i64 0])) wr) := .inl ⟨HF.out, _, _, _, rfl, (qsl_at hQ.sl).1, hQ, HBW⟩
          clear hQ HBW
          go_wp2
          refine bodyPost_ret (v := .tuple #[.slice ov3 c ov4, .int .i64 0]) ?_ rfl HR.out
          simp [results, Tryz.results115, go_sem]

end Go.Proofs.YtmnlggmdomcajaaGreat

namespace Go.Proofs.YtmnlggmdomcajaaGreat
open Go.RowKit Lm
set_option linter.unusedSimpArgs false
set_option linter.unusedVariables false
set_option maxRecDepth 100000

def AnsSay (N : Nat) (R : List Rat) (c : Int) (w : World) (e : Ending) (w' : World) : Prop := ∃ ao cap, e = .returned (.tuple #[.slice ao R.length cap, .int .i64 c]) ∧ QIs w' (.slice ao R.length cap) N R ∧ Below w.heap.size w w'
theorem ans_pair {N : Nat} {R : List Rat} {w w' : World} {e : Ending} (h : QPair N R w e w') : AnsSay N R 0 w e w' := by
  obtain ⟨ao, k, cap, rfl, rfl, hQ, hb⟩ := h
  exact ⟨ao, cap, rfl, hQ, hb⟩
theorem ans_no {N : Nat} {w w' : World} {e : Ending} (h : e = .returned (.tuple #[.slice none 0 0, .int .i64 1]) ∧ Below w.heap.size w w') : AnsSay N [] 1 w e w' := by
  obtain ⟨rfl, hb⟩ := h
  exact ⟨none, 0, rfl, qis_nil _ _, hb⟩
theorem rowSum_len (L : List (List RQ)) : L.length ≤ rowSum L := by
  unfold rowSum
  induction L with
  | nil => simp
  | cons A L ih => simp at ih ⊢; omega
theorem times_both (ao xo : Option Addr) (k ca kx cx n m : Nat) (M : List (List Rat)) (X : List Rat) (hk : k = M.length) (hl : k ≤ 900) (hx : kx = X.length) (hkx : kx ≤ 9223372036854775807) (hn : 1 ≤ n) (hm : 1 ≤ m) (hs : (n + m) * kx ≤ 4000) :
    ∃ R c, ∀ W, QTab W ao ca n M → QSl W (.slice xo kx cx) m X → Calls Tryz.prog 58 #[.slice ao k ca, .slice xo kx cx] W (AnsSay ((n + m) * kx + 1) R c W) ∧ Calls Tryz.prog 61 #[.slice ao k ca, .slice xo kx cx] W (AnsSay ((n + m) * kx + 1) R c W) := by
  cases hw : wide M kx
  · refine ⟨[], 1, fun W hM hX => ⟨(Times_no W ao xo k ca kx cx n M hk hM hkx hw).mono fun e w' h => ans_no h, (rtimes_any W ao xo k ca kx cx n m M X hk hl hM hX hn hm hs).mono fun e w' h => ?_⟩⟩
    rcases h with ⟨h1, -⟩ | ⟨-, h2⟩
    · rw [← hx, hw] at h1; simp at h1
    · exact ans_no h2
  · refine ⟨timesR M X, 0, fun W hM hX => ⟨(Times_any W ao xo k ca kx cx n m M X hk (by omega) hM hX hw hn hm (by rw [← hx]; omega)).mono fun e w' h => ans_pair (by rw [← hx] at h; exact h), (rtimes_any W ao xo k ca kx cx n m M X hk hl hM hX hn hm hs).mono fun e w' h => ?_⟩⟩
    rcases h with ⟨-, h1⟩ | ⟨h1, -⟩
    · exact ans_pair h1
    · rw [← hx, hw] at h1; simp at h1
set_option maxHeartbeats 1600000 in
theorem rleft_no (w : World) (yo ao : Option Addr) (ky k cy ca : Nat) (n : Int) (hky : ky ≤ 9223372036854775807) (hk64 : k ≤ 9223372036854775807) (hw : n < 0 ∨ 1000 < n ∨ ky ≠ k) :
    Calls Tryz.prog 115 #[.slice yo ky cy, .slice ao k ca, .int .i64 n] w (fun e w' => e = .returned (.tuple #[.slice none 0 0, .int .i64 1]) ∧ Below w.heap.size w w') := by
  by_cases f3 : ky = k
  · subst f3
    by_cases f1 : n < 0
    · clear hw
      go_enter Tryz.func115, Tryz.ntmps115
      go_wp2
      refine bodyPost_ret (v := .tuple #[.slice none 0 0, .int .i64 1]) ?_ rfl ⟨rfl, Below.refl _ _⟩
      simp [results, Tryz.results115, go_sem]
    · have f2 : 1000 < n := by
        rcases hw with h | h | h
        · omega
        · exact h
        · exact absurd rfl h
      clear hw
      go_enter Tryz.func115, Tryz.ntmps115
      go_wp2
      refine bodyPost_ret (v := .tuple #[.slice none 0 0, .int .i64 1]) ?_ rfl ⟨rfl, Below.refl _ _⟩
      simp [results, Tryz.results115, go_sem]
  · clear hw
    have hne : ((ky : Int) != (k : Int)) = true := by simp; omega
    go_enter Tryz.func115, Tryz.ntmps115
    go_wp2
    refine bodyPost_ret (v := .tuple #[.slice none 0 0, .int .i64 1]) ?_ rfl ⟨rfl, Below.refl _ _⟩
    simp [results, Tryz.results115, go_sem]
theorem left_both (yo ao : Option Addr) (ky k cy ca s m : Nat) (n : Int) (M : List (List Rat)) (Y : List Rat) (hk : k = M.length) (hl : k ≤ 900) (hky : ky ≤ 9223372036854775807) (hs : 1 ≤ s) (hm : 1 ≤ m) (hs2 : s ≤ 500) (hm2 : m ≤ 500) (hz : (s + m) * k ≤ 4000) :
    ∃ R c, ∀ W, QTab W ao ca s M → QSl W (.slice yo ky cy) m Y → Calls Tryz.prog 110 #[.slice yo ky cy, .slice ao k ca, .int .i64 n] W (AnsSay ((s + m) * k + 1) R c W) ∧ Calls Tryz.prog 115 #[.slice yo ky cy, .slice ao k ca, .int .i64 n] W (AnsSay ((s + m) * k + 1) R c W) := by
  by_cases hbad : n < 0 ∨ 1000 < n ∨ ky ≠ k
  · exact ⟨[], 1, fun W hM hY => ⟨(Left_no W yo ao ky k cy ca s n M hk hky hM (by rcases hbad with h | h | h; exact .inl h; exact .inr (.inl h); exact .inr (.inr (.inl h)))).mono fun e w' h => ans_no h, (rleft_no W yo ao ky k cy ca n hky (by omega) hbad).mono fun e w' h => ans_no h⟩⟩
  · obtain ⟨j, rfl⟩ : ∃ j : Nat, n = j := ⟨n.toNat, by omega⟩
    obtain rfl : ky = k := by omega
    cases hw : wide M j
    · refine ⟨[], 1, fun W hM hY => ⟨(Left_no W yo ao ky ky cy ca s j M hk hky hM (.inr (.inr (.inr hw)))).mono fun e w' h => ans_no h, (rleft_any W yo ao ky cy ca j s m M Y hk hl (by omega) hM hY hs hm hs2 hm2 hz).mono fun e w' h => ?_⟩⟩
      rcases h with ⟨h1, -⟩ | ⟨-, h2⟩
      · rw [hw] at h1; simp at h1
      · exact ans_no h2
    · refine ⟨timesR (cols M j) Y, 0, fun W hM hY => ⟨(Left_any W yo ao ky cy ca j s m M Y hk (by omega) (by omega) hM hY hw hs hm (by omega)).mono fun e w' h => ans_pair h, (rleft_any W yo ao ky cy ca j s m M Y hk hl (by omega) hM hY hs hm hs2 hm2 hz).mono fun e w' h => ?_⟩⟩
      rcases h with ⟨-, h1⟩ | ⟨h1, -⟩
      · exact ans_pair h1
      · rw [hw] at h1; simp at h1

end Go.Proofs.YtmnlggmdomcajaaGreat
