/-
  Walks: the document's nought and NormRat.
  Walks: the document's sums and products of quotients.
  Walks: the document's products, orders and quotients of quotients.
-/
import Derived.Test.YtogdchddmjokmaaGreatDoorG7

namespace Go.Proofs.YtogdchddmjokmaaGreatDoor
open Go.RowKit Lm
set_option linter.unusedSimpArgs false
set_option linter.unusedVariables false
set_option maxRecDepth 100000

set_option maxHeartbeats 1600000 in
theorem nought_any (w : World) :
    Calls Tryz.prog 48 #[] w (RSay 0 2 0 w) := by
  have E0 := (RE.none w).alloc (.cells #[.bool false, .slice none 0 0, .bool false, .slice none 0 0] 26)
  have bR : Box4 (w.alloc (.cells #[.bool false, .slice none 0 0, .bool false, .slice none 0 0] 26)) w.heap.size (.bool false) (.slice none 0 0) (.bool false) (.slice none 0 0) := Box4.new _ _ _ _ _ _ rfl
  have hW0 := E0.bl
  have E := E0.rebase
  clear E0
  go_enter Tryz.func48, Tryz.ntmps48
  go_wp2_with fail
  generalize w.alloc (.cells #[.bool false, .slice none 0 0, .bool false, .slice none 0 0] 26) = W0 at *
  refine (re_rof E 1 (by omega) (by omega)).mono ?_
  rintro e w2 ⟨n2, a2, k2, c2, rfl, E2⟩
  clear E
  have bR2 := bR.keep E2.bl
  have E3 := E2.refill bR2 (.bool false) (.slice none 0 0) (.bool n2) (.slice a2 k2 c2)
  have HI2 := hid (E3.i (.agg #[.bool n2, .slice a2 k2 c2], 2, 1) (List.Mem.head _))
  have HW := hid (below_fill4 (below_call hW0 E2.bl hW0.size) (Nat.le_refl _) (.bool false) (.slice none 0 0) (.bool n2) (.slice a2 k2 c2))
  obtain ⟨r0, r1, r2, r3⟩ := bR2.c
  have rf := bR2.f
  have rl := bR2.lt
  clear E2 E3 bR bR2
  go_wp2
  refine bodyPost_ret (v := .agg #[.bool false, .slice none 0 0, .bool n2, .slice a2 k2 c2]) ?_ rfl ⟨false, none, 0, 0, n2, a2, k2, c2, rfl, ⟨false, none, 0, 0, n2, a2, k2, c2, rfl, (is_zero _).mono (Nat.le_refl _) (by omega), HI2.out⟩, HW.out⟩
  simp [results, Tryz.results48, go_sem, r0, r1, r2, r3]

theorem keepA {U W : World} {a : Nat} {p q r s : Value} (h1 : Box4 U a p q r s) (hb : Below U.heap.size U W) :
    W.cell? ⟨a, 0, none⟩ = some p ∧ W.cell? ⟨a, 1, none⟩ = some q ∧ W.cell? ⟨a, 2, none⟩ = some r ∧ W.cell? ⟨a, 3, none⟩ = some s := (h1.keep hb).c

set_option maxHeartbeats 3200000 in
theorem normRat_any (w : World) (u : Value) (n : Nat) (r : Rat) (h : RArg w u n r) (hn : n ≤ 100000) :
    Calls Tryz.prog 23 #[u] w (RSay 0 (n + 2) r w) := by
  obtain ⟨n1, s1, l1, n2, s2, l2, rfl, ⟨a1, c1, rfl, h1⟩, ⟨a2, c2, rfl, h2⟩, k1, k2, rfl⟩ := h
  have hk2 := slat_len h2
  have HMB : Hid (∀ W, Below w.heap.size w W → Calls Tryz.prog 19 #[.agg #[.bool n1, .slice a1 l1.length c1, .bool n2, .slice a2 l2.length c2]] W fun e w' => e = .returned (.bool (ratMayB n1 l1 n2 l2)) ∧ Below W.heap.size W w') := hid (fun W hW => rmayRat_any W n1 n2 a1 a2 c1 c2 l1 l2 (h1.below hW) (h2.below hW) (by omega) (by omega))
  have HMK1 : Hid (∀ W, Below w.heap.size w W → Calls Tryz.prog 27 #[.bool n1, .slice a1 l1.length c1] W (Told W.heap.size l1.length (sgn n1 (val l1)) W)) := hid (fun W hW => rmk_any W n1 a1 c1 l1 (h1.below hW) (by omega))
  have HMK2 : Hid (∀ W, Below w.heap.size w W → Calls Tryz.prog 27 #[.bool false, .slice a2 l2.length c2] W (Told W.heap.size l2.length (sgn false (val l2)) W)) := hid (fun W hW => rmk_any W false a2 c2 l2 (h2.below hW) (by omega))
  have HF1 : Hid (ratMayB n1 l1 n2 l2 = false → ratMean n1 l1 n2 l2 = 0) := hid (fun hm => ratMean_not (fun h => by rw [(form_may h).1] at hm; simp at hm))
  have HF2 : Hid (l2.length = 0 → ratMean n1 l1 n2 l2 = 0) := hid (fun hl => ratMean_not (fun h => by
    have := h.2.2.1
    rw [List.eq_nil_of_length_eq_zero hl] at this
    cases n2 <;> simp [val, sgn] at this))
  have HF3 : Hid (ratMayB n1 l1 n2 l2 = true → l2.length ≠ 0 → (ratMean n1 l1 n2 l2).num = sgn n1 (val l1) ∧ ((ratMean n1 l1 n2 l2).den : Int) = sgn false (val l2)) := hid (fun hm hl => by
    have hmy : mayB n2 l2 = true := by
      cases hq : mayB n2 l2
      · rw [rm_no2 hq] at hm; simp at hm
      · rfl
    have hf : formB n1 l1 n2 l2 := may_form hm (by
      rw [mean_may hmy]
      refine cmpI_ne ?_
      have h2 : val l2 ≠ 0 := fun h3 => hl (by rw [val_eq_zero (may_canon hmy) h3]; rfl)
      have := sgn_abs n2 (val l2)
      omega)
    have hp := ratMean_parts hf
    refine ⟨hp.1, hp.2.trans ?_⟩
    have := hf.2.2.1
    cases n2
    · rfl
    · simp [sgn] at this; omega)
  generalize ratMean n1 l1 n2 l2 = r at *
  generalize ratMayB n1 l1 n2 l2 = mb at *
  generalize sgn n1 (val l1) = x at *
  generalize sgn false (val l2) = y at *
  generalize l1.length = L1 at *
  generalize l2.length = L2 at *
  clear h1 h2
  go_enter Tryz.func23, Tryz.ntmps23
  go_wp2_with fail
  have hW0 : Below w.heap.size w ((w.alloc (.cells #[.bool n1, .slice a1 L1 c1, .bool n2, .slice a2 L2 c2] 26)).alloc (.cells #[.bool false, .slice none 0 0, .bool false, .slice none 0 0] 26)) := (by repeat (first | exact Below.refl _ _ | refine Below.alloc ?_ ?_ _ | refine Below.setCell ?_ ?_ _ | refine Below.drew ?_ | refine below_drewN ?_ _ | (· simp) | omega | (· simp; omega) | exact Below.size (by assumption) | assumption | refine below_call ?_ (by assumption) ?_))
  have bA : Box4 ((w.alloc (.cells #[.bool n1, .slice a1 L1 c1, .bool n2, .slice a2 L2 c2] 26)).alloc (.cells #[.bool false, .slice none 0 0, .bool false, .slice none 0 0] 26)) w.heap.size (.bool n1) (.slice a1 L1 c1) (.bool n2) (.slice a2 L2 c2) := (Box4.new _ _ _ _ _ _ rfl).alloc _
  have bR : Box4 ((w.alloc (.cells #[.bool n1, .slice a1 L1 c1, .bool n2, .slice a2 L2 c2] 26)).alloc (.cells #[.bool false, .slice none 0 0, .bool false, .slice none 0 0] 26)) (w.heap.size + 1) (.bool false) (.slice none 0 0) (.bool false) (.slice none 0 0) := Box4.new _ _ _ _ _ _ (by simp)
  generalize ((w.alloc (.cells #[.bool n1, .slice a1 L1 c1, .bool n2, .slice a2 L2 c2] 26)).alloc (.cells #[.bool false, .slice none 0 0, .bool false, .slice none 0 0] 26)) = W0 at *
  refine (HMB.out _ hW0).mono ?_
  rintro e w1 ⟨rfl, hb1⟩
  have hW1 := below_call hW0 hb1 hW0.size
  replace bA := bA.keep hb1
  replace bR := bR.keep hb1
  clear hb1 HMB hW0
  obtain ⟨x0, x1, x2, x3⟩ := bA.c
  cases mb
  · have HR := hid (HF1.out rfl)
    clear HF1 HF2 HF3 HMK1 HMK2
    go_wp2_with fail
    refine (nought_any _).mono ?_
    rintro e w2 ⟨m1, b1, j1, d1, m2, b2, j2, d2, rfl, HI, hb2⟩
    have hW2 := below_call hW1 hb2 hW1.size
    replace bR := bR.keep hb2
    have E := ((RE.none w2).knowS HI).refill bR (.bool m1) (.slice b1 j1 d1) (.bool m2) (.slice b2 j2 d2)
    have HS := hid (E.s _ (List.Mem.head _))
    have HB := hid (below_fill4 hW2 (show w.heap.size ≤ w.heap.size + 1 by omega) (.bool m1) (.slice b1 j1 d1) (.bool m2) (.slice b2 j2 d2))
    clear hb2 HI E x0 x1 x2 x3
    obtain ⟨x0, x1, x2, x3⟩ := bR.c
    have xf := bR.f
    have xl := bR.lt
    clear bA bR
    go_wp2
    refine bodyPost_ret (v := .agg #[.bool m1, .slice b1 j1 d1, .bool m2, .slice b2 j2 d2]) ?_ rfl ⟨m1, b1, j1, d1, m2, b2, j2, d2, rfl, ?_, HB.out⟩
    · simp [results, Tryz.results23, go_sem, x0, x1, x2, x3]
    · rw [HR.out]
      exact HS.out.mono (Nat.le_refl _) (by omega)
  · by_cases hz : L2 = 0
    · subst hz
      have HR := hid (HF2.out rfl)
      clear HF1 HF2 HF3 HMK1 HMK2
      go_wp2_with fail
      refine (nought_any _).mono ?_
      rintro e w2 ⟨m1, b1, j1, d1, m2, b2, j2, d2, rfl, HI, hb2⟩
      have hW2 := below_call hW1 hb2 hW1.size
      replace bR := bR.keep hb2
      have E := ((RE.none w2).knowS HI).refill bR (.bool m1) (.slice b1 j1 d1) (.bool m2) (.slice b2 j2 d2)
      have HS := hid (E.s _ (List.Mem.head _))
      have HB := hid (below_fill4 hW2 (show w.heap.size ≤ w.heap.size + 1 by omega) (.bool m1) (.slice b1 j1 d1) (.bool m2) (.slice b2 j2 d2))
      clear hb2 HI E x0 x1 x2 x3
      obtain ⟨x0, x1, x2, x3⟩ := bR.c
      have xf := bR.f
      have xl := bR.lt
      clear bA bR
      go_wp2
      refine bodyPost_ret (v := .agg #[.bool m1, .slice b1 j1 d1, .bool m2, .slice b2 j2 d2]) ?_ rfl ⟨m1, b1, j1, d1, m2, b2, j2, d2, rfl, ?_, HB.out⟩
      · simp [results, Tryz.results23, go_sem, x0, x1, x2, x3]
      · rw [HR.out]
        exact HS.out.mono (Nat.le_refl _) (by omega)
    · have hzb : ((L2 : Int) == 0) = false := by simp; omega
      have HR := hid (HF3.out rfl hz)
      clear HF1 HF2 HF3 hz
      go_wp2_with fail
      clear x0 x1 x2 x3
      have E : RE w1 w1.drew [] [] [] [] := (RE.none w1).drew
      go_region_held3 (fun W' => W'.cell? ⟨w.heap.size, 0, none⟩ = some (.bool n1) ∧ W'.cell? ⟨w.heap.size, 1, none⟩ = some (.slice a1 L1 c1) ∧ W'.cell? ⟨w.heap.size, 2, none⟩ = some (.bool n2) ∧ W'.cell? ⟨w.heap.size, 3, none⟩ = some (.slice a2 L2 c2)) (first | exact keepA bA E.bl | exact keepA ((bA.keep E.bl).beside (by omega) _ _ _ _) (Below.refl _ _)) (first
        | (go_at_call_of 27 (Value.bool n1); go_must (refine (HMK1.out _ (by exact below_call hW1 E.bl hW1.size)).mono ?_); rintro e wn ⟨m1, b1, j1, d1, rfl, hI, hbn⟩; have En := (E.step hbn).knowI hI; clear hbn hI; clear E; have E := En; clear En)
        | (go_at_call 27; go_must (refine (HMK2.out _ (by exact below_call hW1 E.bl hW1.size)).mono ?_); rintro e wn ⟨m2, b2, j2, d2, rfl, hI, hbn⟩; have En := (E.step hbn).knowI hI; clear hbn hI; clear E; have E := En; clear En; (try clear z0 z1 z2 z3 zf zl); obtain ⟨z0, z1, z2, z3⟩ := (bR.keep E.bl).c; have zf := (bR.keep E.bl).f; have zl := (bR.keep E.bl).lt))
      have E4 := E.refill (bR.keep E.bl) (.bool m1) (.slice b1 j1 d1) (.bool m2) (.slice b2 j2 d2)
      have HB := hid (below_fill4 (below_call hW1 E.bl hW1.size) (show w.heap.size ≤ w.heap.size + 1 by omega) (.bool m1) (.slice b1 j1 d1) (.bool m2) (.slice b2 j2 d2))
      have HI1 := hid (E4.i (.agg #[.bool m1, .slice b1 j1 d1], L1, x) (by repeat (first | exact List.Mem.head _ | refine List.Mem.tail _ ?_)))
      have HI2 := hid (E4.i (.agg #[.bool m2, .slice b2 j2 d2], L2, y) (List.Mem.head _))
      clear E E4 bA bR
      go_wp2
      refine bodyPost_ret (v := .agg #[.bool m1, .slice b1 j1 d1, .bool m2, .slice b2 j2 d2]) ?_ rfl ⟨m1, b1, j1, d1, m2, b2, j2, d2, rfl, ⟨m1, b1, j1, d1, m2, b2, j2, d2, rfl, ?_, ?_⟩, HB.out⟩
      · simp [results, Tryz.results23, go_sem, z0, z1, z2, z3]
      · rw [HR.out.1]
        exact HI1.out.mono (Nat.le_refl _) (by omega)
      · rw [HR.out.2]
        exact HI2.out.mono (Nat.le_refl _) (by omega)

end Go.Proofs.YtogdchddmjokmaaGreatDoor

namespace Go.Proofs.YtogdchddmjokmaaGreatDoor
open Go.RowKit Lm
set_option linter.unusedSimpArgs false
set_option linter.unusedVariables false
set_option maxRecDepth 100000

section
variable {U W W' : World} {KA KI : List (Value × Nat × Int)} {KR KS : List (Value × Nat × Rat)} {u v : Value} {n m : Nat} {x y : Int} {r t : Rat}
theorem re_norm4 (E : RE U W KA KI KR KS) (hu : (u, n, r) ∈ KR) (hn : n ≤ 100000) : Calls Tryz.prog 23 #[u] W fun e w' => ∃ m1 b1 j1 d1 m2 b2 j2 d2, e = .returned (.agg #[.bool m1, .slice b1 j1 d1, .bool m2, .slice b2 j2 d2]) ∧ RE U w' ((.agg #[.bool m1, .slice b1 j1 d1], n + 2, r.num) :: (.agg #[.bool m2, .slice b2 j2 d2], n + 2, (r.den : Int)) :: KA) ((.agg #[.bool m1, .slice b1 j1 d1], n + 2, r.num) :: (.agg #[.bool m2, .slice b2 j2 d2], n + 2, (r.den : Int)) :: KI) KR KS := by
  refine (normRat_any W u n r (E.r _ hu) hn).mono ?_
  rintro e w' ⟨m1, b1, j1, d1, m2, b2, j2, d2, rfl, HI, hb⟩
  obtain ⟨_, _, _, _, _, _, _, _, hv, h1, h2⟩ := HI
  simp only [Value.agg.injEq, Array.mk.injEq, List.cons.injEq, Value.bool.injEq, Value.slice.injEq, and_true] at hv
  obtain ⟨rfl, ⟨rfl, rfl, rfl⟩, rfl, rfl, rfl, rfl⟩ := hv
  exact ⟨m1, b1, j1, d1, m2, b2, j2, d2, rfl, ((E.step hb).knowI h2).knowI h1⟩
theorem re_fresh4 {w : World} {ga gb gc : Nat} {p q o s p' q' o' s' p2 q2 o2 s2 : Value} (E : RE U W KA KI KR KS) (hW : Below w.heap.size w U) (bA : Box4 U ga p q o s) (bB : Box4 U gb p' q' o' s') (bR : Box4 U gc p2 q2 o2 s2) :
    RE (W.alloc (.cells #[.bool false, .slice none 0 0, .bool false, .slice none 0 0] 26)) (W.alloc (.cells #[.bool false, .slice none 0 0, .bool false, .slice none 0 0] 26)) KA KI KR KS ∧ Below w.heap.size w (W.alloc (.cells #[.bool false, .slice none 0 0, .bool false, .slice none 0 0] 26)) ∧ Box4 (W.alloc (.cells #[.bool false, .slice none 0 0, .bool false, .slice none 0 0] 26)) ga p q o s ∧ Box4 (W.alloc (.cells #[.bool false, .slice none 0 0, .bool false, .slice none 0 0] 26)) gb p' q' o' s' ∧ Box4 (W.alloc (.cells #[.bool false, .slice none 0 0, .bool false, .slice none 0 0] 26)) gc p2 q2 o2 s2 ∧ Box4 (W.alloc (.cells #[.bool false, .slice none 0 0, .bool false, .slice none 0 0] 26)) W.heap.size (.bool false) (.slice none 0 0) (.bool false) (.slice none 0 0) ∧ ga < W.heap.size ∧ gb < W.heap.size ∧ gc < W.heap.size :=
  ⟨(E.alloc _).rebase, below_call hW (E.alloc _).bl hW.size, bA.keep (E.alloc _).bl, bB.keep (E.alloc _).bl, bR.keep (E.alloc _).bl, Box4.new _ _ _ _ _ _ rfl, (bA.keep E.bl).lt, (bB.keep E.bl).lt, (bR.keep E.bl).lt⟩
end

/-- A fresh box holds a quotient that is told. -/
def Fresh4 (w wc : World) (g n : Nat) (r : Rat) (p5 : Value) : Prop := ∃ g5 n5 a5 k5 c5 n6 a6 k6 c6, p5 = .pointer (some ⟨g5, 0, none⟩) ∧ g < g5 ∧ Box4 wc g5 (.bool n5) (.slice a5 k5 c5) (.bool n6) (.slice a6 k6 c6) ∧ RIs wc 0 (.agg #[.bool n5, .slice a5 k5 c5, .bool n6, .slice a6 k6 c6]) n r ∧ Box4 wc g (.bool false) (.slice none 0 0) (.bool false) (.slice none 0 0) ∧ Below w.heap.size w wc
theorem fresh_new {w U W : World} {g n n' : Nat} {r : Rat} {KA KI : List (Value × Nat × Int)} {KR KS : List (Value × Nat × Rat)} {n5 n6 : Bool} {a5 a6 : Option Addr} {k5 c5 k6 c6 : Nat} (E : RE U W KA KI ((.agg #[.bool n5, .slice a5 k5 c5, .bool n6, .slice a6 k6 c6], n', r) :: KR) ((.agg #[.bool n5, .slice a5 k5 c5, .bool n6, .slice a6 k6 c6], n', r) :: KS)) (hnn : n' ≤ n) (hW : Below w.heap.size w U) (bR : Box4 U g (.bool false) (.slice none 0 0) (.bool false) (.slice none 0 0)) :
    Fresh4 w (W.alloc (.cells #[.bool n5, .slice a5 k5 c5, .bool n6, .slice a6 k6 c6] 26)) g n r (.pointer (some ⟨W.heap.size, 0, none⟩)) :=
  ⟨_, n5, a5, k5, c5, n6, a6, k6, c6, rfl, (bR.keep E.bl).lt, Box4.new _ _ _ _ _ _ rfl, ((E.alloc _).s _ (List.Mem.head _)).mono (Nat.le_refl _) hnn, bR.keep (E.alloc _).bl, below_call hW (E.alloc _).bl hW.size⟩
theorem fresh_fill {w U W : World} {g g5 n n' : Nat} {r : Rat} {KA KI : List (Value × Nat × Int)} {KR KS : List (Value × Nat × Rat)} {n5 n6 : Bool} {a5 a6 : Option Addr} {k5 c5 k6 c6 : Nat} (E : RE U W KA KI ((.agg #[.bool n5, .slice a5 k5 c5, .bool n6, .slice a6 k6 c6], n', r) :: KR) ((.agg #[.bool n5, .slice a5 k5 c5, .bool n6, .slice a6 k6 c6], n', r) :: KS)) (hnn : n' ≤ n) (hW : Below w.heap.size w U) (bR : Box4 U g (.bool false) (.slice none 0 0) (.bool false) (.slice none 0 0)) (bz : Box4 U g5 (.bool false) (.slice none 0 0) (.bool false) (.slice none 0 0)) (h1 : g < g5) (h2 : w.heap.size ≤ g5) :
    Fresh4 w (fill4 W g5 (.bool n5) (.slice a5 k5 c5) (.bool n6) (.slice a6 k6 c6)) g n r (.pointer (some ⟨g5, 0, none⟩)) :=
  ⟨_, n5, a5, k5, c5, n6, a6, k6, c6, rfl, h1, (bz.keep E.bl).filled _ _ _ _, ((E.refill (bz.keep E.bl) _ _ _ _).s _ (List.Mem.head _)).mono (Nat.le_refl _) hnn, (bR.keep E.bl).beside (by omega) _ _ _ _, below_fill4 (below_call hW E.bl hW.size) h2 _ _ _ _⟩
theorem fresh_fill' {w U W : World} {g n n' : Nat} {r : Rat} {KA KI : List (Value × Nat × Int)} {KR KS : List (Value × Nat × Rat)} {n5 n6 : Bool} {a5 a6 : Option Addr} {k5 c5 k6 c6 : Nat} (E : RE U W KA KI ((.agg #[.bool n5, .slice a5 k5 c5, .bool n6, .slice a6 k6 c6], n', r) :: KR) ((.agg #[.bool n5, .slice a5 k5 c5, .bool n6, .slice a6 k6 c6], n', r) :: KS)) (hnn : n' ≤ n) (hW : Below w.heap.size w U) (bR : Box4 U g (.bool false) (.slice none 0 0) (.bool false) (.slice none 0 0)) (h2 : w.heap.size ≤ W.heap.size) :
    Fresh4 w (fill4 (W.alloc (.cells #[.bool false, .slice none 0 0, .bool false, .slice none 0 0] 26)) W.heap.size (.bool n5) (.slice a5 k5 c5) (.bool n6) (.slice a6 k6 c6)) g n r (.pointer (some ⟨W.heap.size, 0, none⟩)) := by
  have hl := (bR.keep E.bl).lt
  have bz : Box4 (W.alloc (.cells #[.bool false, .slice none 0 0, .bool false, .slice none 0 0] 26)) W.heap.size (.bool false) (.slice none 0 0) (.bool false) (.slice none 0 0) := Box4.new _ _ _ _ _ _ rfl
  exact fresh_fill (E.alloc _).rebase hnn (below_call hW (E.alloc _).bl hW.size) (bR.keep (E.alloc _).bl) bz hl h2

end Go.Proofs.YtogdchddmjokmaaGreatDoor

namespace Go.Proofs.YtogdchddmjokmaaGreatDoor
open Go.RowKit Lm
set_option linter.unusedSimpArgs false
set_option linter.unusedVariables false
set_option maxRecDepth 100000

end Go.Proofs.YtogdchddmjokmaaGreatDoor
