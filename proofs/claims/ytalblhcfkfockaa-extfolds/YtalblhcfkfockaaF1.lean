/-
  Walks: the law NumForms.
-/
import Derived.Test.YtalblhcfkfockaaW10
namespace Go.Proofs.Ytalblhcfkfockaa
open Go.RowKit Lm
set_option linter.unusedSimpArgs false
set_option linter.unusedVariables false
set_option maxRecDepth 100000

theorem toV_form (z : Int) : ∃ p b, toV z = .tuple #[.int .i64 p, .bool b] := by
  unfold toV
  split
  · exact ⟨_, _, rfl⟩
  · exact ⟨_, _, rfl⟩

/-- A box that stands behind a call. -/
theorem box_next {w w' : World} {b : Nat} {x y : Value} (h : Box w b x y) (hb : Below w.heap.size w w') : Box w' b x y ∧ w'.cell? ⟨b, 0, none⟩ = some x ∧ w'.cell? ⟨b, 1, none⟩ = some y := ⟨h.keep hb, (h.keep hb).c0, (h.keep hb).c1⟩

end Go.Proofs.Ytalblhcfkfockaa
