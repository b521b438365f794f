/-
  Walks: the document's nought and NormRat.
  Walks: the document's sums and products of quotients.
  Walks: the document's products, orders and quotients of quotients.
-/
import Derived.Test.YtmnlggmdomcajaaGreatG7

namespace Go.Proofs.YtmnlggmdomcajaaGreat
open Go.RowKit Lm
set_option linter.unusedSimpArgs false
set_option linter.unusedVariables false
set_option maxRecDepth 100000

set_option maxHeartbeats 1600000 in
theorem nought_any (w : World) :
    Calls Tryz.prog 83 #[] w (RSay 0 2 0 w) := by
  have E0 := (RE.none w).alloc (.cells #[.bool false, .slice none 0 0, .bool false, .slice none 0 0] 26)
  have bR : Box4 (w.alloc (.cells #[.bool false, .slice none 0 0, .bool false, .slice none 0 0] 26)) w.heap.size (.bool false) (.slice none 0 0) (.bool false) (.slice none 0 0) := Box4.new _ _ _ _ _ _ rfl
  have hW0 := E0.bl
  have E := E0.rebase
  clear E0
  go_enter Tryz.func83, Tryz.ntmps83
  go_wp2_with fail
  generalize w.alloc (.cells #[.bool false, .slice none 0 0, .bool false, .slice none 0 0] 26) = W0 at *
  refine (re_rof E 1 (by omega) (by omega)).mono ?_
  rintro e w2 ⟨n2, a2, k2, c2, rfl, E2⟩
  clear E
  have bR2 := bR.keep E2.bl
  have E3 := E2.refill bR2 (.bool false) (.slice none 0 0) (.bool n2) (.slice a2 k2 c2)
  have HI2 := hid (E3.i (.agg #[.bool n2, .slice a2 k2 c2], 2, 1) (List.Mem.head _))
  have HW := hid (below_fill4 (below_call hW0 E2.bl hW0.size) (Nat.le_refl _) (.bool false) (.slice none 0 0) (.bool n2) (.slice a2 k2 c2))
  obtain ⟨r0, r1, r2, r3⟩ := bR2.c
  have rf := bR2.f
  have rl := bR2.lt
  clear E2 E3 bR bR2
  go_wp2
  refine bodyPost_ret (v := .agg #[.bool false, .slice none 0 0, .bool n2, .slice a2 k2 c2]) ?_ rfl ⟨false, none, 0, 0, n2, a2, k2, c2, rfl, ⟨false, none, 0, 0, n2, a2, k2, c2, rfl, (is_zero _).mono (Nat.le_refl _) (by omega), HI2.out⟩, HW.out⟩
  simp [results, Tryz.results83, go_sem, r0, r1, r2, r3]

theorem keepA {U W : World} {a : Nat} {p q r s : Value} (h1 : Box4 U a p q r s) (hb : Below U.heap.size U W) :
    W.cell? ⟨a, 0, none⟩ = some p ∧ W.cell? ⟨a, 1, none⟩ = some q ∧ W.cell? ⟨a, 2, none⟩ = some r ∧ W.cell? ⟨a, 3, none⟩ = some s := (h1.keep hb).c

set_option maxHeartbeats 3200000 in
theorem normRat_any (w : World) (u : Value) (n : Nat) (r : Rat) (h : RArg w u n r) (hn : n ≤ 100000) :
    Calls Tryz.prog 80 #[u] w (RSay 0 (n + 2) r w) := by
  obtain ⟨n1, s1, l1, n2, s2, l2, rfl, ⟨a1, c1, rfl, h1⟩, ⟨a2, c2, rfl, h2⟩, k1, k2, rfl⟩ := h
  have hk2 := slat_len h2
  have HMB : Hid (∀ W, Below w.heap.size w W → Calls Tryz.prog 42 #[.agg #[.bool n1, .slice a1 l1.length c1, .bool n2, .slice a2 l2.length c2]] W fun e w' => e = .returned (.bool (ratMayB n1 l1 n2 l2)) ∧ Below W.heap.size W w') := hid (fun W hW => rmayRat_any W n1 n2 a1 a2 c1 c2 l1 l2 (h1.below hW) (h2.below hW) (by omega) (by omega))
  have HMK1 : Hid (∀ W, Below w.heap.size w W → Calls Tryz.prog 90 #[.bool n1, .slice a1 l1.length c1] W (Told W.heap.size l1.length (sgn n1 (val l1)) W)) := hid (fun W hW => rmk_any W n1 a1 c1 l1 (h1.below hW) (by omega))
  have HMK2 : Hid (∀ W, Below w.heap.size w W → Calls Tryz.prog 90 #[.bool false, .slice a2 l2.length c2] W (Told W.heap.size l2.length (sgn false (val l2)) W)) := hid (fun W hW => rmk_any W false a2 c2 l2 (h2.below hW) (by omega))
  have HF1 : Hid (ratMayB n1 l1 n2 l2 = false → ratMean n1 l1 n2 l2 = 0) := hid (fun hm => ratMean_not (fun h => by rw [(form_may h).1] at hm; simp at hm))
  have HF2 : Hid (l2.length = 0 → ratMean n1 l1 n2 l2 = 0) := hid (fun hl => ratMean_not (fun h => by
    have := h.2.2.1
    rw [List.eq_nil_of_length_eq_zero hl] at this
    cases n2 <;> simp [val, sgn] at this))
  have HF3 : Hid (ratMayB n1 l1 n2 l2 = true → l2.length ≠ 0 → (ratMean n1 l1 n2 l2).num = sgn n1 (val l1) ∧ ((ratMean n1 l1 n2 l2).den : Int) = sgn false (val l2)) := hid (fun hm hl => by
    have hmy : mayB n2 l2 = true := by
      cases hq : mayB n2 l2
      · rw [rm_no2 hq] at hm; simp at hm
      · rfl
    have hf : formB n1 l1 n2 l2 := may_form hm (by
      rw [mean_may hmy]
      refine cmpI_ne ?_
      have h2 : val l2 ≠ 0 := fun h3 => hl (by rw [val_eq_zero (may_canon hmy) h3]; rfl)
      have := sgn_abs n2 (val l2)
      omega)
    have hp := ratMean_parts hf
    refine ⟨hp.1, hp.2.trans ?_⟩
    have := hf.2.2.1
    cases n2
    · rfl
    · simp [sgn] at this; omega)
  generalize ratMean n1 l1 n2 l2 = r at *
  generalize ratMayB n1 l1 n2 l2 = mb at *
  generalize sgn n1 (val l1) = x at *
  generalize sgn false (val l2) = y at *
  generalize l1.length = L1 at *
  generalize l2.length = L2 at *
  clear h1 h2
  go_enter Tryz.func80, Tryz.ntmps80
  go_wp2_with fail
  have hW0 : Below w.heap.size w ((w.alloc (.cells #[.bool n1, .slice a1 L1 c1, .bool n2, .slice a2 L2 c2] 26)).alloc (.cells #[.bool false, .slice none 0 0, .bool false, .slice none 0 0] 26)) := (by repeat (first | exact Below.refl _ _ | refine Below.alloc ?_ ?_ _ | refine Below.setCell ?_ ?_ _ | refine Below.drew ?_ | refine below_drewN ?_ _ | (· simp) | omega | (· simp; omega) | exact Below.size (by assumption) | assumption | refine below_call ?_ (by assumption) ?_))
  have bA : Box4 ((w.alloc (.cells #[.bool n1, .slice a1 L1 c1, .bool n2, .slice a2 L2 c2] 26)).alloc (.cells #[.bool false, .slice none 0 0, .bool false, .slice none 0 0] 26)) w.heap.size (.bool n1) (.slice a1 L1 c1) (.bool n2) (.slice a2 L2 c2) := (Box4.new _ _ _ _ _ _ rfl).alloc _
  have bR : Box4 ((w.alloc (.cells #[.bool n1, .slice a1 L1 c1, .bool n2, .slice a2 L2 c2] 26)).alloc (.cells #[.bool false, .slice none 0 0, .bool false, .slice none 0 0] 26)) (w.heap.size + 1) (.bool false) (.slice none 0 0) (.bool false) (.slice none 0 0) := Box4.new _ _ _ _ _ _ (by simp)
  generalize ((w.alloc (.cells #[.bool n1, .slice a1 L1 c1, .bool n2, .slice a2 L2 c2] 26)).alloc (.cells #[.bool false, .slice none 0 0, .bool false, .slice none 0 0] 26)) = W0 at *
  refine (HMB.out _ hW0).mono ?_
  rintro e w1 ⟨rfl, hb1⟩
  have hW1 := below_call hW0 hb1 hW0.size
  replace bA := bA.keep hb1
  replace bR := bR.keep hb1
  clear hb1 HMB hW0
  obtain ⟨x0, x1, x2, x3⟩ := bA.c
  cases mb
  · have HR := hid (HF1.out rfl)
    clear HF1 HF2 HF3 HMK1 HMK2
    go_wp2_with fail
    refine (nought_any _).mono ?_
    rintro e w2 ⟨m1, b1, j1, d1, m2, b2, j2, d2, rfl, HI, hb2⟩
    have hW2 := below_call hW1 hb2 hW1.size
    replace bR := bR.keep hb2
    have E := ((RE.none w2).knowS HI).refill bR (.bool m1) (.slice b1 j1 d1) (.bool m2) (.slice b2 j2 d2)
    have HS := hid (E.s _ (List.Mem.head _))
    have HB := hid (below_fill4 hW2 (show w.heap.size ≤ w.heap.size + 1 by omega) (.bool m1) (.slice b1 j1 d1) (.bool m2) (.slice b2 j2 d2))
    clear hb2 HI E x0 x1 x2 x3
    obtain ⟨x0, x1, x2, x3⟩ := bR.c
    have xf := bR.f
    have xl := bR.lt
    clear bA bR
    go_wp2
    refine bodyPost_ret (v := .agg #[.bool m1, .slice b1 j1 d1, .bool m2, .slice b2 j2 d2]) ?_ rfl ⟨m1, b1, j1, d1, m2, b2, j2, d2, rfl, ?_, HB.out⟩
    · simp [results, Tryz.results80, go_sem, x0, x1, x2, x3]
    · rw [HR.out]
      exact HS.out.mono (Nat.le_refl _) (by omega)
  · by_cases hz : L2 = 0
    · subst hz
      have HR := hid (HF2.out rfl)
      clear HF1 HF2 HF3 HMK1 HMK2
      go_wp2_with fail
      refine (nought_any _).mono ?_
      rintro e w2 ⟨m1, b1, j1, d1, m2, b2, j2, d2, rfl, HI, hb2⟩
      have hW2 := below_call hW1 hb2 hW1.size
      replace bR := bR.keep hb2
      have E := ((RE.none w2).knowS HI).refill bR (.bool m1) (.slice b1 j1 d1) (.bool m2) (.slice b2 j2 d2)
      have HS := hid (E.s _ (List.Mem.head _))
      have HB := hid (below_fill4 hW2 (show w.heap.size ≤ w.heap.size + 1 by omega) (.bool m1) (.slice b1 j1 d1) (.bool m2) (.slice b2 j2 d2))
      clear hb2 HI E x0 x1 x2 x3
      obtain ⟨x0, x1, x2, x3⟩ := bR.c
      have xf := bR.f
      have xl := bR.lt
      clear bA bR
      go_wp2
      refine bodyPost_ret (v := .agg #[.bool m1, .slice b1 j1 d1, .bool m2, .slice b2 j2 d2]) ?_ rfl ⟨m1, b1, j1, d1, m2, b2, j2, d2, rfl, ?_, HB.out⟩
      · simp [results, Tryz.results80, go_sem, x0, x1, x2, x3]
      · rw [HR.out]
        exact HS.out.mono (Nat.le_refl _) (by omega)
    · have hzb : ((L2 : Int) == 0) = false := by simp; omega
      have HR := hid (HF3.out rfl hz)
      clear HF1 HF2 HF3 hz
      go_wp2_with fail
      clear x0 x1 x2 x3
      have E : RE w1 w1.drew [] [] [] [] := (RE.none w1).drew
      go_region_held3 (fun W' => W'.cell? ⟨w.heap.size, 0, none⟩ = some (.bool n1) ∧ W'.cell? ⟨w.heap.size, 1, none⟩ = some (.slice a1 L1 c1) ∧ W'.cell? ⟨w.heap.size, 2, none⟩ = some (.bool n2) ∧ W'.cell? ⟨w.heap.size, 3, none⟩ = some (.slice a2 L2 c2)) (first | exact keepA bA E.bl | exact keepA ((bA.keep E.bl).beside (by omega) _ _ _ _) (Below.refl _ _)) (first
        | (go_at_call_of 90 (Value.bool n1); go_must (refine (HMK1.out _ (by exact below_call hW1 E.bl hW1.size)).mono ?_); rintro e wn ⟨m1, b1, j1, d1, rfl, hI, hbn⟩; have En := (E.step hbn).knowI hI; clear hbn hI; clear E; have E := En; clear En)
        | (go_at_call 90; go_must (refine (HMK2.out _ (by exact below_call hW1 E.bl hW1.size)).mono ?_); rintro e wn ⟨m2, b2, j2, d2, rfl, hI, hbn⟩; have En := (E.step hbn).knowI hI; clear hbn hI; clear E; have E := En; clear En; (try clear z0 z1 z2 z3 zf zl); obtain ⟨z0, z1, z2, z3⟩ := (bR.keep E.bl).c; have zf := (bR.keep E.bl).f; have zl := (bR.keep E.bl).lt))
      have E4 := E.refill (bR.keep E.bl) (.bool m1) (.slice b1 j1 d1) (.bool m2) (.slice b2 j2 d2)
      have HB := hid (below_fill4 (below_call hW1 E.bl hW1.size) (show w.heap.size ≤ w.heap.size + 1 by omega) (.bool m1) (.slice b1 j1 d1) (.bool m2) (.slice b2 j2 d2))
      have HI1 := hid (E4.i (.agg #[.bool m1, .slice b1 j1 d1], L1, x) (by repeat (first | exact List.Mem.head _ | refine List.Mem.tail _ ?_)))
      have HI2 := hid (E4.i (.agg #[.bool m2, .slice b2 j2 d2], L2, y) (List.Mem.head _))
      clear E E4 bA bR
      go_wp2
      refine bodyPost_ret (v := .agg #[.bool m1, .slice b1 j1 d1, .bool m2, .slice b2 j2 d2]) ?_ rfl ⟨m1, b1, j1, d1, m2, b2, j2, d2, rfl, ⟨m1, b1, j1, d1, m2, b2, j2, d2, rfl, ?_, ?_⟩, HB.out⟩
      · simp [results, Tryz.results80, go_sem, z0, z1, z2, z3]
      · rw [HR.out.1]
        exact HI1.out.mono (Nat.le_refl _) (by omega)
      · rw [HR.out.2]
        exact HI2.out.mono (Nat.le_refl _) (by omega)

end Go.Proofs.YtmnlggmdomcajaaGreat

namespace Go.Proofs.YtmnlggmdomcajaaGreat
open Go.RowKit Lm
set_option linter.unusedSimpArgs false
set_option linter.unusedVariables false
set_option maxRecDepth 100000

section
variable {U W W' : World} {KA KI : List (Value × Nat × Int)} {KR KS : List (Value × Nat × Rat)} {u v : Value} {n m : Nat} {x y : Int} {r t : Rat}
theorem re_radd (E : RE U W KA KI KR KS) (hu : (u, n, x) ∈ KA) (hv : (v, m, y) ∈ KA) (hn : n ≤ 400000) (hm : m ≤ 400000) : Calls Tryz.prog 85 #[u, v] W (SaysN U KA KI KR KS (n + m + 1) (x + y)) :=
  (radd_num W u v n m x y (E.a _ hu) (E.a _ hv) hn hm).mono fun _ _ h => saysN_of E h
theorem re_rsub (E : RE U W KA KI KR KS) (hu : (u, n, x) ∈ KA) (hv : (v, m, y) ∈ KA) (hn : n ≤ 400000) (hm : m ≤ 400000) : Calls Tryz.prog 116 #[u, v] W (SaysN U KA KI KR KS (n + m + 1) (x - y)) :=
  (rsub_num W u v n m x y (E.a _ hu) (E.a _ hv) hn hm).mono fun _ _ h => saysN_of E h
theorem re_rmul (E : RE U W KA KI KR KS) (hu : (u, n, x) ∈ KA) (hv : (v, m, y) ∈ KA) (hn : n ≤ 500000) (hm : m ≤ 500000) : Calls Tryz.prog 82 #[u, v] W (SaysN U KA KI KR KS (n + m) (x * y)) :=
  (rmul_num W u v n m x y (E.a _ hu) (E.a _ hv) hn hm).mono fun _ _ h => saysN_of E h
theorem re_rcmp (E : RE U W KA KI KR KS) (hu : (u, n, x) ∈ KA) (hv : (v, m, y) ∈ KA) (hn : n ≤ 400000) (hm : m ≤ 400000) : Calls Tryz.prog 81 #[u, v] W fun e w' => e = .returned (.int .i64 (cmpI x y)) ∧ RE U w' KA KI KR KS := by
  refine (rcmp_num W u v n m x y (E.a _ hu) (E.a _ hv) hn hm).mono ?_
  rintro e w' ⟨rfl, hb⟩
  exact ⟨rfl, E.step hb⟩
theorem re_norm4 (E : RE U W KA KI KR KS) (hu : (u, n, r) ∈ KR) (hn : n ≤ 100000) : Calls Tryz.prog 80 #[u] W fun e w' => ∃ m1 b1 j1 d1 m2 b2 j2 d2, e = .returned (.agg #[.bool m1, .slice b1 j1 d1, .bool m2, .slice b2 j2 d2]) ∧ RE U w' ((.agg #[.bool m1, .slice b1 j1 d1], n + 2, r.num) :: (.agg #[.bool m2, .slice b2 j2 d2], n + 2, (r.den : Int)) :: KA) ((.agg #[.bool m1, .slice b1 j1 d1], n + 2, r.num) :: (.agg #[.bool m2, .slice b2 j2 d2], n + 2, (r.den : Int)) :: KI) KR KS := by
  refine (normRat_any W u n r (E.r _ hu) hn).mono ?_
  rintro e w' ⟨m1, b1, j1, d1, m2, b2, j2, d2, rfl, HI, hb⟩
  obtain ⟨_, _, _, _, _, _, _, _, hv, h1, h2⟩ := HI
  simp only [Value.agg.injEq, Array.mk.injEq, List.cons.injEq, Value.bool.injEq, Value.slice.injEq, and_true] at hv
  obtain ⟨rfl, ⟨rfl, rfl, rfl⟩, rfl, rfl, rfl, rfl⟩ := hv
  exact ⟨m1, b1, j1, d1, m2, b2, j2, d2, rfl, ((E.step hb).knowI h2).knowI h1⟩
theorem re_fresh4 {w : World} {ga gb gc : Nat} {p q o s p' q' o' s' p2 q2 o2 s2 : Value} (E : RE U W KA KI KR KS) (hW : Below w.heap.size w U) (bA : Box4 U ga p q o s) (bB : Box4 U gb p' q' o' s') (bR : Box4 U gc p2 q2 o2 s2) :
    RE (W.alloc (.cells #[.bool false, .slice none 0 0, .bool false, .slice none 0 0] 26)) (W.alloc (.cells #[.bool false, .slice none 0 0, .bool false, .slice none 0 0] 26)) KA KI KR KS ∧ Below w.heap.size w (W.alloc (.cells #[.bool false, .slice none 0 0, .bool false, .slice none 0 0] 26)) ∧ Box4 (W.alloc (.cells #[.bool false, .slice none 0 0, .bool false, .slice none 0 0] 26)) ga p q o s ∧ Box4 (W.alloc (.cells #[.bool false, .slice none 0 0, .bool false, .slice none 0 0] 26)) gb p' q' o' s' ∧ Box4 (W.alloc (.cells #[.bool false, .slice none 0 0, .bool false, .slice none 0 0] 26)) gc p2 q2 o2 s2 ∧ Box4 (W.alloc (.cells #[.bool false, .slice none 0 0, .bool false, .slice none 0 0] 26)) W.heap.size (.bool false) (.slice none 0 0) (.bool false) (.slice none 0 0) ∧ ga < W.heap.size ∧ gb < W.heap.size ∧ gc < W.heap.size :=
  ⟨(E.alloc _).rebase, below_call hW (E.alloc _).bl hW.size, bA.keep (E.alloc _).bl, bB.keep (E.alloc _).bl, bR.keep (E.alloc _).bl, Box4.new _ _ _ _ _ _ rfl, (bA.keep E.bl).lt, (bB.keep E.bl).lt, (bR.keep E.bl).lt⟩
end

/-- A fresh box holds a quotient that is told. -/
def Fresh4 (w wc : World) (g n : Nat) (r : Rat) (p5 : Value) : Prop := ∃ g5 n5 a5 k5 c5 n6 a6 k6 c6, p5 = .pointer (some ⟨g5, 0, none⟩) ∧ g < g5 ∧ Box4 wc g5 (.bool n5) (.slice a5 k5 c5) (.bool n6) (.slice a6 k6 c6) ∧ RIs wc 0 (.agg #[.bool n5, .slice a5 k5 c5, .bool n6, .slice a6 k6 c6]) n r ∧ Box4 wc g (.bool false) (.slice none 0 0) (.bool false) (.slice none 0 0) ∧ Below w.heap.size w wc
theorem fresh_new {w U W : World} {g n n' : Nat} {r : Rat} {KA KI : List (Value × Nat × Int)} {KR KS : List (Value × Nat × Rat)} {n5 n6 : Bool} {a5 a6 : Option Addr} {k5 c5 k6 c6 : Nat} (E : RE U W KA KI ((.agg #[.bool n5, .slice a5 k5 c5, .bool n6, .slice a6 k6 c6], n', r) :: KR) ((.agg #[.bool n5, .slice a5 k5 c5, .bool n6, .slice a6 k6 c6], n', r) :: KS)) (hnn : n' ≤ n) (hW : Below w.heap.size w U) (bR : Box4 U g (.bool false) (.slice none 0 0) (.bool false) (.slice none 0 0)) :
    Fresh4 w (W.alloc (.cells #[.bool n5, .slice a5 k5 c5, .bool n6, .slice a6 k6 c6] 26)) g n r (.pointer (some ⟨W.heap.size, 0, none⟩)) :=
  ⟨_, n5, a5, k5, c5, n6, a6, k6, c6, rfl, (bR.keep E.bl).lt, Box4.new _ _ _ _ _ _ rfl, ((E.alloc _).s _ (List.Mem.head _)).mono (Nat.le_refl _) hnn, bR.keep (E.alloc _).bl, below_call hW (E.alloc _).bl hW.size⟩
theorem fresh_fill {w U W : World} {g g5 n n' : Nat} {r : Rat} {KA KI : List (Value × Nat × Int)} {KR KS : List (Value × Nat × Rat)} {n5 n6 : Bool} {a5 a6 : Option Addr} {k5 c5 k6 c6 : Nat} (E : RE U W KA KI ((.agg #[.bool n5, .slice a5 k5 c5, .bool n6, .slice a6 k6 c6], n', r) :: KR) ((.agg #[.bool n5, .slice a5 k5 c5, .bool n6, .slice a6 k6 c6], n', r) :: KS)) (hnn : n' ≤ n) (hW : Below w.heap.size w U) (bR : Box4 U g (.bool false) (.slice none 0 0) (.bool false) (.slice none 0 0)) (bz : Box4 U g5 (.bool false) (.slice none 0 0) (.bool false) (.slice none 0 0)) (h1 : g < g5) (h2 : w.heap.size ≤ g5) :
    Fresh4 w (fill4 W g5 (.bool n5) (.slice a5 k5 c5) (.bool n6) (.slice a6 k6 c6)) g n r (.pointer (some ⟨g5, 0, none⟩)) :=
  ⟨_, n5, a5, k5, c5, n6, a6, k6, c6, rfl, h1, (bz.keep E.bl).filled _ _ _ _, ((E.refill (bz.keep E.bl) _ _ _ _).s _ (List.Mem.head _)).mono (Nat.le_refl _) hnn, (bR.keep E.bl).beside (by omega) _ _ _ _, below_fill4 (below_call hW E.bl hW.size) h2 _ _ _ _⟩
theorem fresh_fill' {w U W : World} {g n n' : Nat} {r : Rat} {KA KI : List (Value × Nat × Int)} {KR KS : List (Value × Nat × Rat)} {n5 n6 : Bool} {a5 a6 : Option Addr} {k5 c5 k6 c6 : Nat} (E : RE U W KA KI ((.agg #[.bool n5, .slice a5 k5 c5, .bool n6, .slice a6 k6 c6], n', r) :: KR) ((.agg #[.bool n5, .slice a5 k5 c5, .bool n6, .slice a6 k6 c6], n', r) :: KS)) (hnn : n' ≤ n) (hW : Below w.heap.size w U) (bR : Box4 U g (.bool false) (.slice none 0 0) (.bool false) (.slice none 0 0)) (h2 : w.heap.size ≤ W.heap.size) :
    Fresh4 w (fill4 (W.alloc (.cells #[.bool false, .slice none 0 0, .bool false, .slice none 0 0] 26)) W.heap.size (.bool n5) (.slice a5 k5 c5) (.bool n6) (.slice a6 k6 c6)) g n r (.pointer (some ⟨W.heap.size, 0, none⟩)) := by
  have hl := (bR.keep E.bl).lt
  have bz : Box4 (W.alloc (.cells #[.bool false, .slice none 0 0, .bool false, .slice none 0 0] 26)) W.heap.size (.bool false) (.slice none 0 0) (.bool false) (.slice none 0 0) := Box4.new _ _ _ _ _ _ rfl
  exact fresh_fill (E.alloc _).rebase hnn (below_call hW (E.alloc _).bl hW.size) (bR.keep (E.alloc _).bl) bz hl h2

set_option maxHeartbeats 6400000 in
theorem addRat_any (w : World) (u v : Value) (n m : Nat) (r t : Rat) (hu : RArg w u n r) (hv : RArg w v m t) (hn : n ≤ 5000) (hm : m ≤ 5000) :
    Calls Tryz.prog 37 #[u, v] w (RSay 0 (3 * n + 3 * m + 13) (r + t) w) := by
  have HX := hid hu
  have HY := hid hv
  obtain ⟨n1, a1, k1, c1, n2, a2, k2, c2, rfl⟩ := hu.shape
  obtain ⟨n3, a3, k3, c3, n4, a4, k4, c4, rfl⟩ := hv.shape
  clear hu hv
  go_enter Tryz.func37, Tryz.ntmps37
  go_wp2_with fail
  have hW0 : Below w.heap.size w (((w.alloc (.cells #[.bool n1, .slice a1 k1 c1, .bool n2, .slice a2 k2 c2] 26)).alloc (.cells #[.bool n3, .slice a3 k3 c3, .bool n4, .slice a4 k4 c4] 26)).alloc (.cells #[.bool false, .slice none 0 0, .bool false, .slice none 0 0] 26)) := (by repeat (first | exact Below.refl _ _ | refine Below.alloc ?_ ?_ _ | refine Below.setCell ?_ ?_ _ | refine Below.drew ?_ | refine below_drewN ?_ _ | (· simp) | omega | (· simp; omega) | exact Below.size (by assumption) | assumption | refine below_call ?_ (by assumption) ?_))
  have bA : Box4 (((w.alloc (.cells #[.bool n1, .slice a1 k1 c1, .bool n2, .slice a2 k2 c2] 26)).alloc (.cells #[.bool n3, .slice a3 k3 c3, .bool n4, .slice a4 k4 c4] 26)).alloc (.cells #[.bool false, .slice none 0 0, .bool false, .slice none 0 0] 26)) w.heap.size (.bool n1) (.slice a1 k1 c1) (.bool n2) (.slice a2 k2 c2) := ((Box4.new _ _ _ _ _ _ rfl).alloc _).alloc _
  have bB : Box4 (((w.alloc (.cells #[.bool n1, .slice a1 k1 c1, .bool n2, .slice a2 k2 c2] 26)).alloc (.cells #[.bool n3, .slice a3 k3 c3, .bool n4, .slice a4 k4 c4] 26)).alloc (.cells #[.bool false, .slice none 0 0, .bool false, .slice none 0 0] 26)) (w.heap.size + 1) (.bool n3) (.slice a3 k3 c3) (.bool n4) (.slice a4 k4 c4) := (Box4.new _ _ _ _ _ _ (by simp)).alloc _
  have bR : Box4 (((w.alloc (.cells #[.bool n1, .slice a1 k1 c1, .bool n2, .slice a2 k2 c2] 26)).alloc (.cells #[.bool n3, .slice a3 k3 c3, .bool n4, .slice a4 k4 c4] 26)).alloc (.cells #[.bool false, .slice none 0 0, .bool false, .slice none 0 0] 26)) (w.heap.size + 1 + 1) (.bool false) (.slice none 0 0) (.bool false) (.slice none 0 0) := Box4.new _ _ _ _ _ _ (by simp)
  generalize (((w.alloc (.cells #[.bool n1, .slice a1 k1 c1, .bool n2, .slice a2 k2 c2] 26)).alloc (.cells #[.bool n3, .slice a3 k3 c3, .bool n4, .slice a4 k4 c4] 26)).alloc (.cells #[.bool false, .slice none 0 0, .bool false, .slice none 0 0] 26)) = W0 at *
  have E : RE W0 W0 [] [] [(Value.agg #[Value.bool n1, Value.slice a1 k1 c1, Value.bool n2, Value.slice a2 k2 c2], n, r), (Value.agg #[Value.bool n3, Value.slice a3 k3 c3, Value.bool n4, Value.slice a4 k4 c4], m, t)] [] := ((RE.none W0).knowR (HY.out.below hW0)).knowR (HX.out.below hW0)
  have HD := hid (den_mul_ne r t)
  clear HX HY
  refine (re_norm4 E (List.Mem.head _) (by omega)).mono ?_
  rintro e w1 ⟨m1, p1, j1, d1, m2, p2, j2, d2, rfl, E1⟩
  clear E
  have hW1 := below_fill4 (below_call hW0 E1.bl hW0.size) (show w.heap.size ≤ w.heap.size by omega) (.bool m1) (.slice p1 j1 d1) (.bool m2) (.slice p2 j2 d2)
  have bA1 := (bA.keep E1.bl).filled (.bool m1) (.slice p1 j1 d1) (.bool m2) (.slice p2 j2 d2)
  have bB1 := (bB.keep E1.bl).beside (show w.heap.size + 1 ≠ w.heap.size by omega) (.bool m1) (.slice p1 j1 d1) (.bool m2) (.slice p2 j2 d2)
  have bR1 := (bR.keep E1.bl).beside (show w.heap.size + 1 + 1 ≠ w.heap.size by omega) (.bool m1) (.slice p1 j1 d1) (.bool m2) (.slice p2 j2 d2)
  have E2 := E1.refill (bA.keep E1.bl) (.bool m1) (.slice p1 j1 d1) (.bool m2) (.slice p2 j2 d2)
  obtain ⟨x0, x1, x2, x3⟩ := (bA.keep E1.bl).c
  have xf := (bA.keep E1.bl).f
  obtain ⟨y0, y1, y2, y3⟩ := (bB.keep E1.bl).c
  have lA := (bA.keep E1.bl).lt
  have lB := (bB.keep E1.bl).lt
  clear E1 bA bB bR hW0
  go_wp2_with fail
  clear x0 x1 x2 x3 xf y0 y1 y2 y3 lA lB
  rw [fill4_eq]
  generalize fill4 w1 w.heap.size (.bool m1) (.slice p1 j1 d1) (.bool m2) (.slice p2 j2 d2) = W1 at *
  refine (re_norm4 E2 (u := Value.agg #[Value.bool n3, Value.slice a3 k3 c3, Value.bool n4, Value.slice a4 k4 c4]) (r := t) (List.Mem.tail _ (List.Mem.head _)) (by omega)).mono ?_
  rintro e w2 ⟨m3, p3, j3, d3, m4, p4, j4, d4, rfl, E3⟩
  clear E2
  have hW := below_fill4 (below_call hW1 E3.bl hW1.size) (show w.heap.size ≤ w.heap.size + 1 by omega) (.bool m3) (.slice p3 j3 d3) (.bool m4) (.slice p4 j4 d4)
  have bA := (bA1.keep E3.bl).beside (show w.heap.size ≠ w.heap.size + 1 by omega) (.bool m3) (.slice p3 j3 d3) (.bool m4) (.slice p4 j4 d4)
  have bB := (bB1.keep E3.bl).filled (.bool m3) (.slice p3 j3 d3) (.bool m4) (.slice p4 j4 d4)
  have bR := (bR1.keep E3.bl).beside (show w.heap.size + 1 + 1 ≠ w.heap.size + 1 by omega) (.bool m3) (.slice p3 j3 d3) (.bool m4) (.slice p4 j4 d4)
  have E := E3.refill (bB1.keep E3.bl) (.bool m3) (.slice p3 j3 d3) (.bool m4) (.slice p4 j4 d4)
  obtain ⟨y0, y1, y2, y3⟩ := (bB1.keep E3.bl).c
  have yf := (bB1.keep E3.bl).f
  have lA := (bA1.keep E3.bl).lt
  have lB := (bB1.keep E3.bl).lt
  clear E3 bA1 bB1 bR1 hW1
  go_wp2_with fail
  clear y0 y1 y2 y3 yf lA lB
  rw [fill4_eq]
  generalize fill4 w2 (w.heap.size + 1) (.bool m3) (.slice p3 j3 d3) (.bool m4) (.slice p4 j4 d4) = W2 at *
  replace E := (E.less (KA' := [(.agg #[.bool m3, .slice p3 j3 d3], m + 2, t.num), (.agg #[.bool m4, .slice p4 j4 d4], m + 2, (t.den : Int)), (.agg #[.bool m1, .slice p1 j1 d1], n + 2, r.num), (.agg #[.bool m2, .slice p2 j2 d2], n + 2, (r.den : Int))]) (KI' := []) (KR' := []) (KS' := []) (by simp) (by simp) (by simp) (by simp))
  have HAD := hid (add_rat r t)
  go_cut [5] (fun p5 wc => Fresh4 w wc (w.heap.size + 1 + 1) (3 * n + 3 * m + 13) (r + t) p5)
  case first =>
    go_region_held3 (fun W' => W'.cell? ⟨w.heap.size, 0, none⟩ = some (.bool m1) ∧ W'.cell? ⟨w.heap.size, 1, none⟩ = some (.slice p1 j1 d1) ∧ W'.cell? ⟨w.heap.size, 2, none⟩ = some (.bool m2) ∧ W'.cell? ⟨w.heap.size, 3, none⟩ = some (.slice p2 j2 d2) ∧ W'.cell? ⟨w.heap.size + 1, 0, none⟩ = some (.bool m3) ∧ W'.cell? ⟨w.heap.size + 1, 1, none⟩ = some (.slice p3 j3 d3) ∧ W'.cell? ⟨w.heap.size + 1, 2, none⟩ = some (.bool m4) ∧ W'.cell? ⟨w.heap.size + 1, 3, none⟩ = some (.slice p4 j4 d4)) (first | exact keep44 bA bB E.bl | exact keep44 bA bB E.drew.bl | exact keep44 bA bB (E.alloc _).drew.bl | exact keep44 bA bB (E.alloc _).bl | exact keep44 ((bA.keep E.bl).beside (by omega) _ _ _ _) ((bB.keep E.bl).beside (by omega) _ _ _ _) (Below.refl _ _) | exact keep44 ((bA.keep (E.alloc _).bl).beside (by omega) _ _ _ _) ((bB.keep (E.alloc _).bl).beside (by omega) _ _ _ _) (Below.refl _ _)) (first
      | (go_at_call 82; (first | (with_reducible refine (re_rmul E (by with_unfolding_all repeat (first | exact List.Mem.head _ | refine List.Mem.tail _ ?_)) (by with_unfolding_all repeat (first | exact List.Mem.head _ | refine List.Mem.tail _ ?_)) (by with_unfolding_all omega) (by with_unfolding_all omega)).mono ?_) | (with_reducible refine (re_rmul E.drew (by with_unfolding_all repeat (first | exact List.Mem.head _ | refine List.Mem.tail _ ?_)) (by with_unfolding_all repeat (first | exact List.Mem.head _ | refine List.Mem.tail _ ?_)) (by with_unfolding_all omega) (by with_unfolding_all omega)).mono ?_) | (obtain ⟨E', hW', bA', bB', bR', bz, la, lb, lc⟩ := re_fresh4 E hW bA bB bR; clear E hW bA bB bR; have E := E'; have hW := hW'; have bA := bA'; have bB := bB'; have bR := bR'; clear E' hW' bA' bB' bR'; (try simp only [dsize] at la lb lc bz); first | (with_reducible refine (re_rmul E (by with_unfolding_all repeat (first | exact List.Mem.head _ | refine List.Mem.tail _ ?_)) (by with_unfolding_all repeat (first | exact List.Mem.head _ | refine List.Mem.tail _ ?_)) (by with_unfolding_all omega) (by with_unfolding_all omega)).mono ?_) | (with_reducible refine (re_rmul E.drew (by with_unfolding_all repeat (first | exact List.Mem.head _ | refine List.Mem.tail _ ?_)) (by with_unfolding_all repeat (first | exact List.Mem.head _ | refine List.Mem.tail _ ?_)) (by with_unfolding_all omega) (by with_unfolding_all omega)).mono ?_))); rintro e wn ⟨nn, an, kn, cn, rfl, En⟩; clear E; have E := En; clear En; (try (clear z0 z1 z2 z3 zf zl)); (try (obtain ⟨z0, z1, z2, z3⟩ := (bz.keep E.bl).c; have zf := (bz.keep E.bl).f; have zl := (bz.keep E.bl).lt)))
      | (go_at_call 85; (first | (with_reducible refine (re_radd E (by with_unfolding_all repeat (first | exact List.Mem.head _ | refine List.Mem.tail _ ?_)) (by with_unfolding_all repeat (first | exact List.Mem.head _ | refine List.Mem.tail _ ?_)) (by with_unfolding_all omega) (by with_unfolding_all omega)).mono ?_) | (with_reducible refine (re_radd E.drew (by with_unfolding_all repeat (first | exact List.Mem.head _ | refine List.Mem.tail _ ?_)) (by with_unfolding_all repeat (first | exact List.Mem.head _ | refine List.Mem.tail _ ?_)) (by with_unfolding_all omega) (by with_unfolding_all omega)).mono ?_) | (obtain ⟨E', hW', bA', bB', bR', bz, la, lb, lc⟩ := re_fresh4 E hW bA bB bR; clear E hW bA bB bR; have E := E'; have hW := hW'; have bA := bA'; have bB := bB'; have bR := bR'; clear E' hW' bA' bB' bR'; (try simp only [dsize] at la lb lc bz); first | (with_reducible refine (re_radd E (by with_unfolding_all repeat (first | exact List.Mem.head _ | refine List.Mem.tail _ ?_)) (by with_unfolding_all repeat (first | exact List.Mem.head _ | refine List.Mem.tail _ ?_)) (by with_unfolding_all omega) (by with_unfolding_all omega)).mono ?_) | (with_reducible refine (re_radd E.drew (by with_unfolding_all repeat (first | exact List.Mem.head _ | refine List.Mem.tail _ ?_)) (by with_unfolding_all repeat (first | exact List.Mem.head _ | refine List.Mem.tail _ ?_)) (by with_unfolding_all omega) (by with_unfolding_all omega)).mono ?_))); rintro e wn ⟨nn, an, kn, cn, rfl, En⟩; clear E; have E := En; clear En; (try (clear z0 z1 z2 z3 zf zl)); (try (obtain ⟨z0, z1, z2, z3⟩ := (bz.keep E.bl).c; have zf := (bz.keep E.bl).f; have zl := (bz.keep E.bl).lt)))
      | (go_at_call 38; (first | (with_reducible refine (re_rquo E (by with_unfolding_all repeat (first | exact List.Mem.head _ | refine List.Mem.tail _ ?_)) (by with_unfolding_all repeat (first | exact List.Mem.head _ | refine List.Mem.tail _ ?_)) HD.out (by with_unfolding_all omega) (by with_unfolding_all omega)).mono ?_) | (with_reducible refine (re_rquo E.drew (by with_unfolding_all repeat (first | exact List.Mem.head _ | refine List.Mem.tail _ ?_)) (by with_unfolding_all repeat (first | exact List.Mem.head _ | refine List.Mem.tail _ ?_)) HD.out (by with_unfolding_all omega) (by with_unfolding_all omega)).mono ?_) | (obtain ⟨E', hW', bA', bB', bR', bz, la, lb, lc⟩ := re_fresh4 E hW bA bB bR; clear E hW bA bB bR; have E := E'; have hW := hW'; have bA := bA'; have bB := bB'; have bR := bR'; clear E' hW' bA' bB' bR'; (try simp only [dsize] at la lb lc bz); first | (with_reducible refine (re_rquo E (by with_unfolding_all repeat (first | exact List.Mem.head _ | refine List.Mem.tail _ ?_)) (by with_unfolding_all repeat (first | exact List.Mem.head _ | refine List.Mem.tail _ ?_)) HD.out (by with_unfolding_all omega) (by with_unfolding_all omega)).mono ?_) | (with_reducible refine (re_rquo E.drew (by with_unfolding_all repeat (first | exact List.Mem.head _ | refine List.Mem.tail _ ?_)) (by with_unfolding_all repeat (first | exact List.Mem.head _ | refine List.Mem.tail _ ?_)) HD.out (by with_unfolding_all omega) (by with_unfolding_all omega)).mono ?_))); rintro e wn ⟨nr, ar, kr, cr, nt, at', kt, ct, rfl, En⟩; clear E; have E := En; clear En; (try (clear z0 z1 z2 z3 zf zl)); (try (obtain ⟨z0, z1, z2, z3⟩ := (bz.keep E.bl).c; have zf := (bz.keep E.bl).f; have zl := (bz.keep E.bl).lt))))
    all_goals (rw [HAD.out] at E; go_wp2_with fail; go_meet; first | with_reducible exact fresh_new E (by omega) hW bR | (rw [fill4_eq]; with_reducible exact fresh_fill E (by omega) hW bR bz lc (by omega)))
  case rest =>
    obtain ⟨g5, n5, a5, k5, c5, n6, a6, k6, c6, rfl, hg, b5, HI, bR', hWc⟩ := hcut
    have HB := hid (below_fill4 hWc (show w.heap.size ≤ w.heap.size + 1 + 1 by omega) (.bool n5) (.slice a5 k5 c5) (.bool n6) (.slice a6 k6 c6))
    have HS := hid (HI.off4 bR' (grow4 wc (w.heap.size + 1 + 1) (.bool n5) (.slice a5 k5 c5) (.bool n6) (.slice a6 k6 c6)))
    obtain ⟨z0, z1, z2, z3⟩ := b5.c
    obtain ⟨r0, r1, r2, r3⟩ := bR'.c
    have rf := bR'.f
    have lr := bR'.lt
    have l5 := b5.lt
    clear HI hWc bA bB bR bR' b5 E hW
    go_wp2
    refine bodyPost_ret (v := .agg #[.bool n5, .slice a5 k5 c5, .bool n6, .slice a6 k6 c6]) ?_ rfl ⟨n5, a5, k5, c5, n6, a6, k6, c6, rfl, HS.out, HB.out⟩
    simp [results, Tryz.results37, go_sem, r0, r1, r2, r3]

end Go.Proofs.YtmnlggmdomcajaaGreat

namespace Go.Proofs.YtmnlggmdomcajaaGreat
open Go.RowKit Lm
set_option linter.unusedSimpArgs false
set_option linter.unusedVariables false
set_option maxRecDepth 100000

set_option maxHeartbeats 6400000 in
theorem mulRat_any (w : World) (u v : Value) (n m : Nat) (r t : Rat) (hu : RArg w u n r) (hv : RArg w v m t) (hn : n ≤ 5000) (hm : m ≤ 5000) :
    Calls Tryz.prog 84 #[u, v] w (RSay 0 (2 * n + 2 * m + 8) (r * t) w) := by
  have HX := hid hu
  have HY := hid hv
  obtain ⟨n1, a1, k1, c1, n2, a2, k2, c2, rfl⟩ := hu.shape
  obtain ⟨n3, a3, k3, c3, n4, a4, k4, c4, rfl⟩ := hv.shape
  clear hu hv
  go_enter Tryz.func84, Tryz.ntmps84
  go_wp2_with fail
  have hW0 : Below w.heap.size w (((w.alloc (.cells #[.bool n1, .slice a1 k1 c1, .bool n2, .slice a2 k2 c2] 26)).alloc (.cells #[.bool n3, .slice a3 k3 c3, .bool n4, .slice a4 k4 c4] 26)).alloc (.cells #[.bool false, .slice none 0 0, .bool false, .slice none 0 0] 26)) := (by repeat (first | exact Below.refl _ _ | refine Below.alloc ?_ ?_ _ | refine Below.setCell ?_ ?_ _ | refine Below.drew ?_ | refine below_drewN ?_ _ | (· simp) | omega | (· simp; omega) | exact Below.size (by assumption) | assumption | refine below_call ?_ (by assumption) ?_))
  have bA : Box4 (((w.alloc (.cells #[.bool n1, .slice a1 k1 c1, .bool n2, .slice a2 k2 c2] 26)).alloc (.cells #[.bool n3, .slice a3 k3 c3, .bool n4, .slice a4 k4 c4] 26)).alloc (.cells #[.bool false, .slice none 0 0, .bool false, .slice none 0 0] 26)) w.heap.size (.bool n1) (.slice a1 k1 c1) (.bool n2) (.slice a2 k2 c2) := ((Box4.new _ _ _ _ _ _ rfl).alloc _).alloc _
  have bB : Box4 (((w.alloc (.cells #[.bool n1, .slice a1 k1 c1, .bool n2, .slice a2 k2 c2] 26)).alloc (.cells #[.bool n3, .slice a3 k3 c3, .bool n4, .slice a4 k4 c4] 26)).alloc (.cells #[.bool false, .slice none 0 0, .bool false, .slice none 0 0] 26)) (w.heap.size + 1) (.bool n3) (.slice a3 k3 c3) (.bool n4) (.slice a4 k4 c4) := (Box4.new _ _ _ _ _ _ (by simp)).alloc _
  have bR : Box4 (((w.alloc (.cells #[.bool n1, .slice a1 k1 c1, .bool n2, .slice a2 k2 c2] 26)).alloc (.cells #[.bool n3, .slice a3 k3 c3, .bool n4, .slice a4 k4 c4] 26)).alloc (.cells #[.bool false, .slice none 0 0, .bool false, .slice none 0 0] 26)) (w.heap.size + 1 + 1) (.bool false) (.slice none 0 0) (.bool false) (.slice none 0 0) := Box4.new _ _ _ _ _ _ (by simp)
  generalize (((w.alloc (.cells #[.bool n1, .slice a1 k1 c1, .bool n2, .slice a2 k2 c2] 26)).alloc (.cells #[.bool n3, .slice a3 k3 c3, .bool n4, .slice a4 k4 c4] 26)).alloc (.cells #[.bool false, .slice none 0 0, .bool false, .slice none 0 0] 26)) = W0 at *
  have E : RE W0 W0 [] [] [(Value.agg #[Value.bool n1, Value.slice a1 k1 c1, Value.bool n2, Value.slice a2 k2 c2], n, r), (Value.agg #[Value.bool n3, Value.slice a3 k3 c3, Value.bool n4, Value.slice a4 k4 c4], m, t)] [] := ((RE.none W0).knowR (HY.out.below hW0)).knowR (HX.out.below hW0)
  have HD := hid (den_mul_ne r t)
  clear HX HY
  refine (re_norm4 E (List.Mem.head _) (by omega)).mono ?_
  rintro e w1 ⟨m1, p1, j1, d1, m2, p2, j2, d2, rfl, E1⟩
  clear E
  have hW1 := below_fill4 (below_call hW0 E1.bl hW0.size) (show w.heap.size ≤ w.heap.size by omega) (.bool m1) (.slice p1 j1 d1) (.bool m2) (.slice p2 j2 d2)
  have bA1 := (bA.keep E1.bl).filled (.bool m1) (.slice p1 j1 d1) (.bool m2) (.slice p2 j2 d2)
  have bB1 := (bB.keep E1.bl).beside (show w.heap.size + 1 ≠ w.heap.size by omega) (.bool m1) (.slice p1 j1 d1) (.bool m2) (.slice p2 j2 d2)
  have bR1 := (bR.keep E1.bl).beside (show w.heap.size + 1 + 1 ≠ w.heap.size by omega) (.bool m1) (.slice p1 j1 d1) (.bool m2) (.slice p2 j2 d2)
  have E2 := E1.refill (bA.keep E1.bl) (.bool m1) (.slice p1 j1 d1) (.bool m2) (.slice p2 j2 d2)
  obtain ⟨x0, x1, x2, x3⟩ := (bA.keep E1.bl).c
  have xf := (bA.keep E1.bl).f
  obtain ⟨y0, y1, y2, y3⟩ := (bB.keep E1.bl).c
  have lA := (bA.keep E1.bl).lt
  have lB := (bB.keep E1.bl).lt
  clear E1 bA bB bR hW0
  go_wp2_with fail
  clear x0 x1 x2 x3 xf y0 y1 y2 y3 lA lB
  rw [fill4_eq]
  generalize fill4 w1 w.heap.size (.bool m1) (.slice p1 j1 d1) (.bool m2) (.slice p2 j2 d2) = W1 at *
  refine (re_norm4 E2 (u := Value.agg #[Value.bool n3, Value.slice a3 k3 c3, Value.bool n4, Value.slice a4 k4 c4]) (r := t) (List.Mem.tail _ (List.Mem.head _)) (by omega)).mono ?_
  rintro e w2 ⟨m3, p3, j3, d3, m4, p4, j4, d4, rfl, E3⟩
  clear E2
  have hW := below_fill4 (below_call hW1 E3.bl hW1.size) (show w.heap.size ≤ w.heap.size + 1 by omega) (.bool m3) (.slice p3 j3 d3) (.bool m4) (.slice p4 j4 d4)
  have bA := (bA1.keep E3.bl).beside (show w.heap.size ≠ w.heap.size + 1 by omega) (.bool m3) (.slice p3 j3 d3) (.bool m4) (.slice p4 j4 d4)
  have bB := (bB1.keep E3.bl).filled (.bool m3) (.slice p3 j3 d3) (.bool m4) (.slice p4 j4 d4)
  have bR := (bR1.keep E3.bl).beside (show w.heap.size + 1 + 1 ≠ w.heap.size + 1 by omega) (.bool m3) (.slice p3 j3 d3) (.bool m4) (.slice p4 j4 d4)
  have E := E3.refill (bB1.keep E3.bl) (.bool m3) (.slice p3 j3 d3) (.bool m4) (.slice p4 j4 d4)
  obtain ⟨y0, y1, y2, y3⟩ := (bB1.keep E3.bl).c
  have yf := (bB1.keep E3.bl).f
  have lA := (bA1.keep E3.bl).lt
  have lB := (bB1.keep E3.bl).lt
  clear E3 bA1 bB1 bR1 hW1
  go_wp2_with fail
  clear y0 y1 y2 y3 yf lA lB
  rw [fill4_eq]
  generalize fill4 w2 (w.heap.size + 1) (.bool m3) (.slice p3 j3 d3) (.bool m4) (.slice p4 j4 d4) = W2 at *
  replace E := (E.less (KA' := [(.agg #[.bool m3, .slice p3 j3 d3], m + 2, t.num), (.agg #[.bool m4, .slice p4 j4 d4], m + 2, (t.den : Int)), (.agg #[.bool m1, .slice p1 j1 d1], n + 2, r.num), (.agg #[.bool m2, .slice p2 j2 d2], n + 2, (r.den : Int))]) (KI' := []) (KR' := []) (KS' := []) (by simp) (by simp) (by simp) (by simp))
  have HMD := hid (mul_rat r t)
  go_cut [5] (fun p5 wc => Fresh4 w wc (w.heap.size + 1 + 1) (2 * n + 2 * m + 8) (r * t) p5)
  case first =>
    go_region_held3 (fun W' => W'.cell? ⟨w.heap.size, 0, none⟩ = some (.bool m1) ∧ W'.cell? ⟨w.heap.size, 1, none⟩ = some (.slice p1 j1 d1) ∧ W'.cell? ⟨w.heap.size, 2, none⟩ = some (.bool m2) ∧ W'.cell? ⟨w.heap.size, 3, none⟩ = some (.slice p2 j2 d2) ∧ W'.cell? ⟨w.heap.size + 1, 0, none⟩ = some (.bool m3) ∧ W'.cell? ⟨w.heap.size + 1, 1, none⟩ = some (.slice p3 j3 d3) ∧ W'.cell? ⟨w.heap.size + 1, 2, none⟩ = some (.bool m4) ∧ W'.cell? ⟨w.heap.size + 1, 3, none⟩ = some (.slice p4 j4 d4)) (first | exact keep44 bA bB E.bl | exact keep44 bA bB E.drew.bl | exact keep44 bA bB (E.alloc _).drew.bl | exact keep44 bA bB (E.alloc _).bl | exact keep44 ((bA.keep E.bl).beside (by omega) _ _ _ _) ((bB.keep E.bl).beside (by omega) _ _ _ _) (Below.refl _ _) | exact keep44 ((bA.keep (E.alloc _).bl).beside (by omega) _ _ _ _) ((bB.keep (E.alloc _).bl).beside (by omega) _ _ _ _) (Below.refl _ _)) (first
      | (go_at_call 82; (first | (with_reducible refine (re_rmul E (by with_unfolding_all repeat (first | exact List.Mem.head _ | refine List.Mem.tail _ ?_)) (by with_unfolding_all repeat (first | exact List.Mem.head _ | refine List.Mem.tail _ ?_)) (by with_unfolding_all omega) (by with_unfolding_all omega)).mono ?_) | (with_reducible refine (re_rmul E.drew (by with_unfolding_all repeat (first | exact List.Mem.head _ | refine List.Mem.tail _ ?_)) (by with_unfolding_all repeat (first | exact List.Mem.head _ | refine List.Mem.tail _ ?_)) (by with_unfolding_all omega) (by with_unfolding_all omega)).mono ?_) | (obtain ⟨E', hW', bA', bB', bR', bz, la, lb, lc⟩ := re_fresh4 E hW bA bB bR; clear E hW bA bB bR; have E := E'; have hW := hW'; have bA := bA'; have bB := bB'; have bR := bR'; clear E' hW' bA' bB' bR'; (try simp only [dsize] at la lb lc bz); first | (with_reducible refine (re_rmul E (by with_unfolding_all repeat (first | exact List.Mem.head _ | refine List.Mem.tail _ ?_)) (by with_unfolding_all repeat (first | exact List.Mem.head _ | refine List.Mem.tail _ ?_)) (by with_unfolding_all omega) (by with_unfolding_all omega)).mono ?_) | (with_reducible refine (re_rmul E.drew (by with_unfolding_all repeat (first | exact List.Mem.head _ | refine List.Mem.tail _ ?_)) (by with_unfolding_all repeat (first | exact List.Mem.head _ | refine List.Mem.tail _ ?_)) (by with_unfolding_all omega) (by with_unfolding_all omega)).mono ?_))); rintro e wn ⟨nn, an, kn, cn, rfl, En⟩; clear E; have E := En; clear En; (try (clear z0 z1 z2 z3 zf zl)); (try (obtain ⟨z0, z1, z2, z3⟩ := (bz.keep E.bl).c; have zf := (bz.keep E.bl).f; have zl := (bz.keep E.bl).lt)))
      | (go_at_call 38; (first | (with_reducible refine (re_rquo E (by with_unfolding_all repeat (first | exact List.Mem.head _ | refine List.Mem.tail _ ?_)) (by with_unfolding_all repeat (first | exact List.Mem.head _ | refine List.Mem.tail _ ?_)) HD.out (by with_unfolding_all omega) (by with_unfolding_all omega)).mono ?_) | (with_reducible refine (re_rquo E.drew (by with_unfolding_all repeat (first | exact List.Mem.head _ | refine List.Mem.tail _ ?_)) (by with_unfolding_all repeat (first | exact List.Mem.head _ | refine List.Mem.tail _ ?_)) HD.out (by with_unfolding_all omega) (by with_unfolding_all omega)).mono ?_) | (obtain ⟨E', hW', bA', bB', bR', bz, la, lb, lc⟩ := re_fresh4 E hW bA bB bR; clear E hW bA bB bR; have E := E'; have hW := hW'; have bA := bA'; have bB := bB'; have bR := bR'; clear E' hW' bA' bB' bR'; (try simp only [dsize] at la lb lc bz); first | (with_reducible refine (re_rquo E (by with_unfolding_all repeat (first | exact List.Mem.head _ | refine List.Mem.tail _ ?_)) (by with_unfolding_all repeat (first | exact List.Mem.head _ | refine List.Mem.tail _ ?_)) HD.out (by with_unfolding_all omega) (by with_unfolding_all omega)).mono ?_) | (with_reducible refine (re_rquo E.drew (by with_unfolding_all repeat (first | exact List.Mem.head _ | refine List.Mem.tail _ ?_)) (by with_unfolding_all repeat (first | exact List.Mem.head _ | refine List.Mem.tail _ ?_)) HD.out (by with_unfolding_all omega) (by with_unfolding_all omega)).mono ?_))); rintro e wn ⟨nr, ar, kr, cr, nt, at', kt, ct, rfl, En⟩; clear E; have E := En; clear En; (try (clear z0 z1 z2 z3 zf zl)); (try (obtain ⟨z0, z1, z2, z3⟩ := (bz.keep E.bl).c; have zf := (bz.keep E.bl).f; have zl := (bz.keep E.bl).lt))))
    all_goals (rw [HMD.out] at E; go_wp2_with fail; go_meet; first | with_reducible exact fresh_new E (by omega) hW bR | (rw [fill4_eq]; with_reducible exact fresh_fill E (by omega) hW bR bz lc (by omega)))
  case rest =>
    obtain ⟨g5, n5, a5, k5, c5, n6, a6, k6, c6, rfl, hg, b5, HI, bR', hWc⟩ := hcut
    have HB := hid (below_fill4 hWc (show w.heap.size ≤ w.heap.size + 1 + 1 by omega) (.bool n5) (.slice a5 k5 c5) (.bool n6) (.slice a6 k6 c6))
    have HS := hid (HI.off4 bR' (grow4 wc (w.heap.size + 1 + 1) (.bool n5) (.slice a5 k5 c5) (.bool n6) (.slice a6 k6 c6)))
    obtain ⟨z0, z1, z2, z3⟩ := b5.c
    obtain ⟨r0, r1, r2, r3⟩ := bR'.c
    have rf := bR'.f
    have lr := bR'.lt
    have l5 := b5.lt
    clear HI hWc bA bB bR bR' b5 E hW
    go_wp2
    refine bodyPost_ret (v := .agg #[.bool n5, .slice a5 k5 c5, .bool n6, .slice a6 k6 c6]) ?_ rfl ⟨n5, a5, k5, c5, n6, a6, k6, c6, rfl, HS.out, HB.out⟩
    simp [results, Tryz.results84, go_sem, r0, r1, r2, r3]

set_option maxHeartbeats 6400000 in
theorem cmpRat_any (w : World) (u v : Value) (n m : Nat) (r t : Rat) (hu : RArg w u n r) (hv : RArg w v m t) (hn : n ≤ 5000) (hm : m ≤ 5000) :
    Calls Tryz.prog 33 #[u, v] w fun e w' => e = .returned (.int .i64 (cmpR r t)) ∧ Below w.heap.size w w' := by
  have HX := hid hu
  have HY := hid hv
  obtain ⟨n1, a1, k1, c1, n2, a2, k2, c2, rfl⟩ := hu.shape
  obtain ⟨n3, a3, k3, c3, n4, a4, k4, c4, rfl⟩ := hv.shape
  clear hu hv
  go_enter Tryz.func33, Tryz.ntmps33
  go_wp2_with fail
  have hW0 : Below w.heap.size w ((w.alloc (.cells #[.bool n1, .slice a1 k1 c1, .bool n2, .slice a2 k2 c2] 26)).alloc (.cells #[.bool n3, .slice a3 k3 c3, .bool n4, .slice a4 k4 c4] 26)) := (by repeat (first | exact Below.refl _ _ | refine Below.alloc ?_ ?_ _ | refine Below.setCell ?_ ?_ _ | refine Below.drew ?_ | refine below_drewN ?_ _ | (· simp) | omega | (· simp; omega) | exact Below.size (by assumption) | assumption | refine below_call ?_ (by assumption) ?_))
  have bA : Box4 ((w.alloc (.cells #[.bool n1, .slice a1 k1 c1, .bool n2, .slice a2 k2 c2] 26)).alloc (.cells #[.bool n3, .slice a3 k3 c3, .bool n4, .slice a4 k4 c4] 26)) w.heap.size (.bool n1) (.slice a1 k1 c1) (.bool n2) (.slice a2 k2 c2) := (Box4.new _ _ _ _ _ _ rfl).alloc _
  have bB : Box4 ((w.alloc (.cells #[.bool n1, .slice a1 k1 c1, .bool n2, .slice a2 k2 c2] 26)).alloc (.cells #[.bool n3, .slice a3 k3 c3, .bool n4, .slice a4 k4 c4] 26)) (w.heap.size + 1) (.bool n3) (.slice a3 k3 c3) (.bool n4) (.slice a4 k4 c4) := Box4.new _ _ _ _ _ _ (by simp)
  generalize ((w.alloc (.cells #[.bool n1, .slice a1 k1 c1, .bool n2, .slice a2 k2 c2] 26)).alloc (.cells #[.bool n3, .slice a3 k3 c3, .bool n4, .slice a4 k4 c4] 26)) = W0 at *
  have E : RE W0 W0 [] [] [(Value.agg #[Value.bool n1, Value.slice a1 k1 c1, Value.bool n2, Value.slice a2 k2 c2], n, r), (Value.agg #[Value.bool n3, Value.slice a3 k3 c3, Value.bool n4, Value.slice a4 k4 c4], m, t)] [] := ((RE.none W0).knowR (HY.out.below hW0)).knowR (HX.out.below hW0)
  clear HX HY
  refine (re_norm4 E (List.Mem.head _) (by omega)).mono ?_
  rintro e w1 ⟨m1, p1, j1, d1, m2, p2, j2, d2, rfl, E1⟩
  clear E
  have hW1 := below_fill4 (below_call hW0 E1.bl hW0.size) (show w.heap.size ≤ w.heap.size by omega) (.bool m1) (.slice p1 j1 d1) (.bool m2) (.slice p2 j2 d2)
  have bA1 := (bA.keep E1.bl).filled (.bool m1) (.slice p1 j1 d1) (.bool m2) (.slice p2 j2 d2)
  have bB1 := (bB.keep E1.bl).beside (show w.heap.size + 1 ≠ w.heap.size by omega) (.bool m1) (.slice p1 j1 d1) (.bool m2) (.slice p2 j2 d2)
  have E2 := E1.refill (bA.keep E1.bl) (.bool m1) (.slice p1 j1 d1) (.bool m2) (.slice p2 j2 d2)
  obtain ⟨x0, x1, x2, x3⟩ := (bA.keep E1.bl).c
  have xf := (bA.keep E1.bl).f
  obtain ⟨y0, y1, y2, y3⟩ := (bB.keep E1.bl).c
  have lA := (bA.keep E1.bl).lt
  have lB := (bB.keep E1.bl).lt
  clear E1 bA bB hW0
  go_wp2_with fail
  clear x0 x1 x2 x3 xf y0 y1 y2 y3 lA lB
  rw [fill4_eq]
  generalize fill4 w1 w.heap.size (.bool m1) (.slice p1 j1 d1) (.bool m2) (.slice p2 j2 d2) = W1 at *
  refine (re_norm4 E2 (u := Value.agg #[Value.bool n3, Value.slice a3 k3 c3, Value.bool n4, Value.slice a4 k4 c4]) (r := t) (List.Mem.tail _ (List.Mem.head _)) (by omega)).mono ?_
  rintro e w2 ⟨m3, p3, j3, d3, m4, p4, j4, d4, rfl, E3⟩
  clear E2
  have hW := below_fill4 (below_call hW1 E3.bl hW1.size) (show w.heap.size ≤ w.heap.size + 1 by omega) (.bool m3) (.slice p3 j3 d3) (.bool m4) (.slice p4 j4 d4)
  have bA := (bA1.keep E3.bl).beside (show w.heap.size ≠ w.heap.size + 1 by omega) (.bool m3) (.slice p3 j3 d3) (.bool m4) (.slice p4 j4 d4)
  have bB := (bB1.keep E3.bl).filled (.bool m3) (.slice p3 j3 d3) (.bool m4) (.slice p4 j4 d4)
  have E := E3.refill (bB1.keep E3.bl) (.bool m3) (.slice p3 j3 d3) (.bool m4) (.slice p4 j4 d4)
  obtain ⟨y0, y1, y2, y3⟩ := (bB1.keep E3.bl).c
  have yf := (bB1.keep E3.bl).f
  have lA := (bA1.keep E3.bl).lt
  have lB := (bB1.keep E3.bl).lt
  clear E3 bA1 bB1 hW1
  go_wp2_with fail
  clear y0 y1 y2 y3 yf lA lB
  rw [fill4_eq]
  generalize fill4 w2 (w.heap.size + 1) (.bool m3) (.slice p3 j3 d3) (.bool m4) (.slice p4 j4 d4) = W2 at *
  replace E := (E.less (KA' := [(.agg #[.bool m3, .slice p3 j3 d3], m + 2, t.num), (.agg #[.bool m4, .slice p4 j4 d4], m + 2, (t.den : Int)), (.agg #[.bool m1, .slice p1 j1 d1], n + 2, r.num), (.agg #[.bool m2, .slice p2 j2 d2], n + 2, (r.den : Int))]) (KI' := []) (KR' := []) (KS' := []) (by simp) (by simp) (by simp) (by simp))
  replace E := E.drew
  go_region_held3 (fun W' => W'.cell? ⟨w.heap.size, 0, none⟩ = some (.bool m1) ∧ W'.cell? ⟨w.heap.size, 1, none⟩ = some (.slice p1 j1 d1) ∧ W'.cell? ⟨w.heap.size, 2, none⟩ = some (.bool m2) ∧ W'.cell? ⟨w.heap.size, 3, none⟩ = some (.slice p2 j2 d2) ∧ W'.cell? ⟨w.heap.size + 1, 0, none⟩ = some (.bool m3) ∧ W'.cell? ⟨w.heap.size + 1, 1, none⟩ = some (.slice p3 j3 d3) ∧ W'.cell? ⟨w.heap.size + 1, 2, none⟩ = some (.bool m4) ∧ W'.cell? ⟨w.heap.size + 1, 3, none⟩ = some (.slice p4 j4 d4)) (exact keep44 bA bB E.bl) (first
    | (go_at_call 82; go_must (refine (re_rmul E (by repeat (first | exact List.Mem.head _ | refine List.Mem.tail _ ?_)) (by repeat (first | exact List.Mem.head _ | refine List.Mem.tail _ ?_)) (by omega) (by omega)).mono ?_); rintro e wn ⟨nn, an, kn, cn, rfl, En⟩; clear E; have E := En; clear En)
    | (go_at_call 81; go_must (refine (re_rcmp E (by repeat (first | exact List.Mem.head _ | refine List.Mem.tail _ ?_)) (by repeat (first | exact List.Mem.head _ | refine List.Mem.tail _ ?_)) (by omega) (by omega)).mono ?_); rintro e wn ⟨rfl, En⟩; clear E; have E := En; clear En))
  have HB := hid (below_call hW E.bl hW.size)
  clear E bA bB
  rw [cmp_rat]
  go_wp2
  go_ret
  exact ⟨rfl, HB.out⟩

end Go.Proofs.YtmnlggmdomcajaaGreat
