/-
  Walks: two quotients that are counted; Mul, Div, Cmp.
  Walks: Mul.
  Walks: Div.
-/
import Derived.Test.YtogdchddmjokmaaGreatDoorRA

namespace Go.Proofs.YtogdchddmjokmaaGreatDoor
open Go.RowKit Lm
set_option linter.unusedSimpArgs false
set_option linter.unusedVariables false
set_option maxRecDepth 100000

theorem RArg.shape {w : World} {v : Value} {n : Nat} {r : Rat} (h : RArg w v n r) : ∃ n1 a1 k1 c1 n2 a2 k2 c2, v = .agg #[.bool n1, .slice a1 k1 c1, .bool n2, .slice a2 k2 c2] := by
  obtain ⟨n1, s1, l1, n2, s2, l2, rfl, ⟨a1, c1, rfl, -⟩, ⟨a2, c2, rfl, -⟩, -⟩ := h
  exact ⟨n1, a1, _, c1, n2, a2, _, c2, rfl⟩

/-- Two boxes of quotients have been filled with what they count as. -/
def Cnt2 (w W0 : World) (g h n m : Nat) (r t : Rat) (wc : World) : Prop :=
  ∃ m1 p1 j1 d1 m2 p2 j2 d2 m3 p3 j3 d3 m4 p4 j4 d4, Box4 wc g (.bool m1) (.slice p1 j1 d1) (.bool m2) (.slice p2 j2 d2) ∧ Box4 wc h (.bool m3) (.slice p3 j3 d3) (.bool m4) (.slice p4 j4 d4) ∧
    RE wc wc [(.agg #[.bool m3, .slice p3 j3 d3], m, t.num), (.agg #[.bool m4, .slice p4 j4 d4], m, (t.den : Int)), (.agg #[.bool m1, .slice p1 j1 d1], n, r.num), (.agg #[.bool m2, .slice p2 j2 d2], n, (r.den : Int))] [] [] [] ∧
    Below w.heap.size w wc ∧ ∀ b, b < W0.heap.size → b ≠ g → b ≠ h → wc.heap[b]? = W0.heap[b]?

theorem fill_block {W : World} {g b : Nat} (hne : b ≠ g) (p q r s : Value) : (fill4 W g p q r s).heap[b]? = W.heap[b]? := by
  unfold fill4
  rw [heap_setCell_other _ _ b _ hne, heap_setCell_other _ _ b _ hne, heap_setCell_other _ _ b _ hne, heap_setCell_other _ _ b _ hne]

theorem cnt2_mk {w W0 w2 : World} {g h n m : Nat} {r t : Rat} {n1 n2 n3 n4 : Bool} {a1 a2 a3 a4 : Option Addr} {k1 c1 k2 c2 k3 c3 k4 c4 : Nat} {m1 m2 m3 m4 : Bool} {p1 p2 p3 p4 : Option Addr} {j1 d1 j2 d2 j3 d3 j4 d4 : Nat} {KR : List (Value × Nat × Rat)}
    (E : RE W0 w2 [(.agg #[.bool m3, .slice p3 j3 d3], m, t.num), (.agg #[.bool m4, .slice p4 j4 d4], m, (t.den : Int)), (.agg #[.bool m1, .slice p1 j1 d1], n, r.num), (.agg #[.bool m2, .slice p2 j2 d2], n, (r.den : Int))] [] KR [])
    (bA : Box4 W0 g (.bool n1) (.slice a1 k1 c1) (.bool n2) (.slice a2 k2 c2)) (bB : Box4 W0 h (.bool n3) (.slice a3 k3 c3) (.bool n4) (.slice a4 k4 c4)) (hW0 : Below w.heap.size w W0) (hg : w.heap.size ≤ g) (hh : w.heap.size ≤ h) (hne : g ≠ h) :
    Cnt2 w W0 g h n m r t (fill4 (fill4 w2 g (.bool m1) (.slice p1 j1 d1) (.bool m2) (.slice p2 j2 d2)) h (.bool m3) (.slice p3 j3 d3) (.bool m4) (.slice p4 j4 d4)) := by
  have b1 := bA.keep E.bl
  have b2 := bB.keep E.bl
  have b2' := b2.beside (Ne.symm hne) (.bool m1) (.slice p1 j1 d1) (.bool m2) (.slice p2 j2 d2)
  refine ⟨m1, p1, j1, d1, m2, p2, j2, d2, m3, p3, j3, d3, m4, p4, j4, d4, (b1.filled _ _ _ _).beside hne _ _ _ _, b2'.filled _ _ _ _, ?_, below_fill4 (below_fill4 (below_call hW0 E.bl hW0.size) hg _ _ _ _) hh _ _ _ _, fun b hb h1 h2 => ?_⟩
  · exact ((E.refill b1 _ _ _ _).refill b2' _ _ _ _).less (by simp) (by simp) (by simp) (by simp)
  · rw [fill_block h2, fill_block h1]
    exact E.bl.block b hb
theorem cnt2_mk' {w W0 w2 : World} {g h n m : Nat} {r t : Rat} {n1 n2 n3 n4 : Bool} {a1 a2 a3 a4 : Option Addr} {k1 c1 k2 c2 k3 c3 k4 c4 : Nat} {m1 m2 m3 m4 : Bool} {p1 p2 p3 p4 : Option Addr} {j1 d1 j2 d2 j3 d3 j4 d4 : Nat} {KR : List (Value × Nat × Rat)}
    (E : RE W0 w2 [(.agg #[.bool m3, .slice p3 j3 d3], m, t.num), (.agg #[.bool m4, .slice p4 j4 d4], m, (t.den : Int)), (.agg #[.bool m1, .slice p1 j1 d1], n, r.num), (.agg #[.bool m2, .slice p2 j2 d2], n, (r.den : Int))] [] KR [])
    (bA : Box4 W0 g (.bool n1) (.slice a1 k1 c1) (.bool n2) (.slice a2 k2 c2)) (bB : Box4 W0 h (.bool n3) (.slice a3 k3 c3) (.bool n4) (.slice a4 k4 c4)) (hW0 : Below w.heap.size w W0) (hg : w.heap.size ≤ g) (hh : w.heap.size ≤ h) (hne : g ≠ h) :
    Cnt2 w W0 g h n m r t (fill4 (fill4 w2 h (.bool m3) (.slice p3 j3 d3) (.bool m4) (.slice p4 j4 d4)) g (.bool m1) (.slice p1 j1 d1) (.bool m2) (.slice p2 j2 d2)) := by
  have b1 := bA.keep E.bl
  have b2 := bB.keep E.bl
  have b1' := b1.beside hne (.bool m3) (.slice p3 j3 d3) (.bool m4) (.slice p4 j4 d4)
  refine ⟨m1, p1, j1, d1, m2, p2, j2, d2, m3, p3, j3, d3, m4, p4, j4, d4, b1'.filled _ _ _ _, (b2.filled _ _ _ _).beside (Ne.symm hne) _ _ _ _, ?_, below_fill4 (below_fill4 (below_call hW0 E.bl hW0.size) hh _ _ _ _) hg _ _ _ _, fun b hb h1 h2 => ?_⟩
  · exact ((E.refill b2 _ _ _ _).refill b1' _ _ _ _).less (by simp) (by simp) (by simp) (by simp)
  · rw [fill_block h1, fill_block h2]
    exact E.bl.block b hb

end Go.Proofs.YtogdchddmjokmaaGreatDoor

namespace Go.Proofs.YtogdchddmjokmaaGreatDoor
open Go.RowKit Lm
set_option linter.unusedSimpArgs false
set_option linter.unusedVariables false
set_option maxRecDepth 100000

theorem den_mul_ne (r t : Rat) : (r.den : Int) * (t.den : Int) ≠ 0 := by
  have h1 := r.den_pos
  have h2 := t.den_pos
  exact Int.mul_ne_zero (by omega) (by omega)
theorem den_num_ne (r : Rat) {t : Rat} (h : t ≠ 0) : (r.den : Int) * t.num ≠ 0 := by
  have h1 := r.den_pos
  exact Int.mul_ne_zero (by omega) (fun e => h (Rat.num_eq_zero.1 e))
variable {U W W' : World} {KA KI : List (Value × Nat × Int)} {KR KS : List (Value × Nat × Rat)} {u v : Value} {n m : Nat} {x y : Int} {r t : Rat}
/-- A quotient and no error. -/
def SaysE (U : World) (KA KI : List (Value × Nat × Int)) (KR KS : List (Value × Nat × Rat)) (n : Nat) (r : Rat) (e : Ending) (w' : World) : Prop :=
  ∃ n1 a1 k1 c1 n2 a2 k2 c2, e = .returned (.tuple #[.agg #[.bool n1, .slice a1 k1 c1, .bool n2, .slice a2 k2 c2], .int .i64 0]) ∧ RE U w' KA KI ((.agg #[.bool n1, .slice a1 k1 c1, .bool n2, .slice a2 k2 c2], n, r) :: KR) ((.agg #[.bool n1, .slice a1 k1 c1, .bool n2, .slice a2 k2 c2], n, r) :: KS)
theorem re_quo (E : RE U W KA KI KR KS) (hu : (u, n, x) ∈ KA) (hv : (v, m, y) ∈ KA) (hy : y ≠ 0) (hn : n ≤ 100000) (hm : m ≤ 100000) : Calls Tryz.prog 12 #[u, v] W (SaysE U KA KI KR KS (n + m) (Rat.divInt x y)) := by
  refine (quo_any W u v n m x y (E.a _ hu) (E.a _ hv) hy hn hm).mono ?_
  rintro e w' ⟨n1, a1, k1, c1, n2, a2, k2, c2, rfl, hI, hb⟩
  exact ⟨n1, a1, k1, c1, n2, a2, k2, c2, rfl, (E.step hb).knowS hI⟩
theorem re_quoz (E : RE U W KA KI KR KS) (hu : (u, n, x) ∈ KA) (hv : (v, m, y) ∈ KA) (hy : y = 0) : Calls Tryz.prog 12 #[u, v] W fun e w' => e = .returned (.tuple #[.agg #[.bool false, .slice none 0 0, .bool false, .slice none 0 0], .int .i64 11]) ∧ RE U w' KA KI KR KS := by
  refine (quo_zero W u v n m x y (E.a _ hu) (E.a _ hv) hy).mono ?_
  rintro e w' ⟨rfl, hb⟩
  exact ⟨rfl, E.step hb⟩

end Go.Proofs.YtogdchddmjokmaaGreatDoor

namespace Go.Proofs.YtogdchddmjokmaaGreatDoor
open Go.RowKit Lm
set_option linter.unusedSimpArgs false
set_option linter.unusedVariables false
set_option maxRecDepth 100000

end Go.Proofs.YtogdchddmjokmaaGreatDoor
