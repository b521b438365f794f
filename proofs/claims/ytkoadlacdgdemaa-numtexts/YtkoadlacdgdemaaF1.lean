/-
  Walks: the law NumForms.
-/
import Derived.Test.YtkoadlacdgdemaaW10
namespace Go.Proofs.Ytkoadlacdgdemaa
open Go.RowKit Lm
set_option linter.unusedSimpArgs false
set_option linter.unusedVariables false
set_option maxRecDepth 100000

theorem toV_form (z : Int) : ∃ p b, toV z = .tuple #[.int .i64 p, .bool b] := by
  unfold toV
  split
  · exact ⟨_, _, rfl⟩
  · exact ⟨_, _, rfl⟩

/-- The lengths, as Great reads them off a row of numbers. -/
theorem great_one (W : World) (g : Nat) (hg : W.heap.size = g) (neg : Bool) (ao : Option Addr) (k cap : Nat) (hk : k ≤ 9223372036854775807) :
    Calls Try.prog 9 #[.slice (some ⟨g, 0, none⟩) 1 1] (W.alloc (.cells #[.bool neg, .slice ao k cap] 24)) fun e w' => e = .returned (.bool (greatB [k])) ∧ w' = W.alloc (.cells #[.bool neg, .slice ao k cap] 24) := by
  subst hg
  refine great_any _ W.heap.size 1 [k] (by simp) (by intro i hi; simp at hi; subst hi; simpa using hk) ?_
  intro i hi
  simp at hi
  subst hi
  exact ⟨ao, cap, (Box.new W _ _ _ rfl).c1⟩

/-- A box that stands behind a call. -/
theorem box_next {w w' : World} {b : Nat} {x y : Value} (h : Box w b x y) (hb : Below w.heap.size w w') : Box w' b x y ∧ w'.cell? ⟨b, 0, none⟩ = some x ∧ w'.cell? ⟨b, 1, none⟩ = some y := ⟨h.keep hb, (h.keep hb).c0, (h.keep hb).c1⟩

end Go.Proofs.Ytkoadlacdgdemaa
