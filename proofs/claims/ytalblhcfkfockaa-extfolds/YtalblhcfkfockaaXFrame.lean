/-
  What came in, opened: a quotient with ends of the law's arguments.
-/
import Derived.Test.YtalblhcfkfockaaRF
namespace Go.Proofs.Ytalblhcfkfockaa
open Go.ChangeShapes Go.WideShapes Go.ChangeAt Go.RowKit Go.Joins Lm
set_option linter.unusedVariables false
set_option maxRecDepth 100000
set_option linter.unusedSimpArgs false

theorem Try.cellsExt : Try.prog.cellsOf 31 = 5 := by kernel_rfl
theorem Try.cellsInt : Try.prog.cellsOf 3 = 1 := by kernel_rfl

theorem rat_cells {H : Type} {enc : TypeId × Value → H} {W : World} {fuel : Nat} {q0 q1 q2 q3 : Value} {x : DataW H × List MemPlace}
    (h : DataW.trod enc Try.prog W 0 (fun _ => true) true fuel 29 [q0, q1, q2, q3] = some x) :
    ∃ n1 a1 c1 l1 n2 a2 c2 l2, q0 = .bool n1 ∧ q1 = .slice a1 l1.length c1 ∧ q2 = .bool n2 ∧ q3 = .slice a2 l2.length c2 ∧ SlAt W a1 c1 l1 ∧ SlAt W a2 c2 l2 := by
  obtain ⟨y0, y1, n, -, -, h0, h1⟩ := trod_struct2 Try.underlying29 h
  simp only [Try.cellsNum, List.drop_zero, List.take_succ_cons, List.take_zero, List.drop_succ_cons] at h0 h1
  obtain ⟨n1, a1, c1, l1, e1, e2, s1⟩ := num_cells h0
  obtain ⟨n2, a2, c2, l2, e3, e4, s2⟩ := num_cells h1
  exact ⟨n1, a1, c1, l1, n2, a2, c2, l2, e1, e2, e3, e4, s1, s2⟩

theorem open_ext {H : Type} {enc : TypeId × Value → H} {W : World} {base : Nat} {v : Value} {d : DataW H} {p : List MemPlace}
    (hv : Value.okWide Try.prog W .any base 31 v) (h : DataW.Trod enc Try.prog W 0 (fun _ => true) true 31 v d p) :
    ∃ k n1 a1 c1 l1 n2 a2 c2 l2, v = .agg #[.int .i64 k, .bool n1, .slice a1 l1.length c1, .bool n2, .slice a2 l2.length c2] ∧ SlAt W a1 c1 l1 ∧ SlAt W a2 c2 l2 := by
  obtain ⟨cs, rfl, hsz⟩ := okWide_struct Try.underlying31 hv
  rw [Try.cellsExt] at hsz
  obtain ⟨q, q0, q1, q2, q3, rfl⟩ : ∃ q q0 q1 q2 q3, cs = #[q, q0, q1, q2, q3] := by
    match cs, hsz with
    | ⟨[q, q0, q1, q2, q3]⟩, _ => exact ⟨q, q0, q1, q2, q3, rfl⟩
  obtain ⟨fuel, hf⟩ := h
  obtain ⟨y0, y1, n, -, -, h0, h1⟩ := trod_struct2 Try.underlying31 hf
  simp only [Value.cells, Try.cellsInt, Try.cellsRat, List.drop_zero, List.take_succ_cons, List.take_zero, List.drop_succ_cons] at h0 h1
  obtain ⟨k, e0, -⟩ := DataW.trod_int Try.underlying3 h0
  simp at e0
  subst e0
  obtain ⟨n1, a1, c1, l1, n2, a2, c2, l2, rfl, rfl, rfl, rfl, s1, s2⟩ := rat_cells h1
  exact ⟨k, n1, a1, c1, l1, n2, a2, c2, l2, rfl, s1, s2⟩

end Go.Proofs.Ytalblhcfkfockaa
