/-
  Three quotients in memory; Cmp, told by a fact.
-/
import Derived.Test.YtogdchddmjokmaaGreatDoorRC
namespace Go.Proofs.YtogdchddmjokmaaGreatDoor
open Go.RowKit Lm
set_option linter.unusedSimpArgs false
set_option linter.unusedVariables false
set_option maxRecDepth 100000

variable {U W W' : World} {KA KI : List (Value × Nat × Int)} {KR KS : List (Value × Nat × Rat)} {u v : Value} {n m : Nat} {x y z : Int} {r t : Rat}
theorem keep444 {a b c : Nat} {p q r s p' q' r' s' p2 q2 r2 s2 : Value} (h1 : Box4 U a p q r s) (h2 : Box4 U b p' q' r' s') (h3 : Box4 U c p2 q2 r2 s2) (hb : Below U.heap.size U W) :
    W.cell? ⟨a, 0, none⟩ = some p ∧ W.cell? ⟨a, 1, none⟩ = some q ∧ W.cell? ⟨a, 2, none⟩ = some r ∧ W.cell? ⟨a, 3, none⟩ = some s ∧ W.cell? ⟨b, 0, none⟩ = some p' ∧ W.cell? ⟨b, 1, none⟩ = some q' ∧ W.cell? ⟨b, 2, none⟩ = some r' ∧ W.cell? ⟨b, 3, none⟩ = some s' ∧ W.cell? ⟨c, 0, none⟩ = some p2 ∧ W.cell? ⟨c, 1, none⟩ = some q2 ∧ W.cell? ⟨c, 2, none⟩ = some r2 ∧ W.cell? ⟨c, 3, none⟩ = some s2 := by
  obtain ⟨x0, x1, x2, x3⟩ := (h1.keep hb).c
  obtain ⟨y0, y1, y2, y3⟩ := (h2.keep hb).c
  obtain ⟨z0, z1, z2, z3⟩ := (h3.keep hb).c
  exact ⟨x0, x1, x2, x3, y0, y1, y2, y3, z0, z1, z2, z3⟩
theorem cmpR_turn (r t : Rat) : cmpR t r = -cmpR r t := by
  rcases cmpR_or r t with ⟨h1, h2⟩ | ⟨h1, h2⟩ | ⟨h1, h2⟩
  · rw [h2, cmpR_gt h1]; rfl
  · rw [h2, cmpR_eq h1.symm]; rfl
  · rw [h2, cmpR_lt h1]
theorem cmpR_sub (r t : Rat) : cmpR (r - t) 0 = cmpR r t := by
  rcases cmpR_or r t with ⟨h1, h2⟩ | ⟨h1, h2⟩ | ⟨h1, h2⟩
  · rw [h2]; exact cmpR_lt (by grind)
  · rw [h2]; exact cmpR_eq (by grind)
  · rw [h2]; exact cmpR_gt (by grind)
theorem cmpR_add (r t q : Rat) : cmpR (r + q) (t + q) = cmpR r t := by
  rcases cmpR_or r t with ⟨h1, h2⟩ | ⟨h1, h2⟩ | ⟨h1, h2⟩
  · rw [h2]; exact cmpR_lt (by grind)
  · rw [h2]; exact cmpR_eq (by grind)
  · rw [h2]; exact cmpR_gt (by grind)
theorem cmpR_mul (r t q : Rat) : cmpR (r * q) (t * q) = cmpR r t * cmpR q 0 := by
  rcases cmpR_or q 0 with ⟨h1, h2⟩ | ⟨h1, h2⟩ | ⟨h1, h2⟩
  · have hq : 0 < -q := by grind
    rw [h2, Int.mul_neg_one, ← cmpR_turn]
    rcases cmpR_or t r with ⟨k1, k2⟩ | ⟨k1, k2⟩ | ⟨k1, k2⟩
    · rw [k2]
      refine cmpR_lt ?_
      have := Rat.mul_lt_mul_of_pos_right k1 hq
      grind
    · rw [k2]; exact cmpR_eq (by rw [k1])
    · rw [k2]
      refine cmpR_gt ?_
      have := Rat.mul_lt_mul_of_pos_right k1 hq
      grind
  · subst h1
    rw [h2, Rat.mul_zero, Rat.mul_zero, Int.mul_zero]
    exact cmpR_eq rfl
  · rw [h2, Int.mul_one]
    rcases cmpR_or r t with ⟨k1, k2⟩ | ⟨k1, k2⟩ | ⟨k1, k2⟩
    · rw [k2]; exact cmpR_lt (Rat.mul_lt_mul_of_pos_right k1 h1)
    · rw [k2]; exact cmpR_eq (by rw [k1])
    · rw [k2]; exact cmpR_gt (Rat.mul_lt_mul_of_pos_right k1 h1)
theorem cmpR_on {r t q : Rat} (h1 : ¬ 0 < cmpR r t) (h2 : ¬ 0 < cmpR t q) : cmpR r q ≤ 0 := by
  refine cmpR_le ?_
  have k1 : r ≤ t := by
    rcases cmpR_or r t with ⟨a, b⟩ | ⟨a, b⟩ | ⟨a, b⟩
    · grind
    · grind
    · omega
  have k2 : t ≤ q := by
    rcases cmpR_or t q with ⟨a, b⟩ | ⟨a, b⟩ | ⟨a, b⟩
    · grind
    · grind
    · omega
  grind
theorem cmpR_b (r t : Rat) : -1 ≤ cmpR r t ∧ cmpR r t ≤ 1 := by
  rcases cmpR_or r t with ⟨_, h⟩ | ⟨_, h⟩ | ⟨_, h⟩ <;> omega
theorem cmpR_ne {r t : Rat} (h : r ≠ t) : cmpR r t ≠ 0 := by
  rcases cmpR_or r t with ⟨_, h2⟩ | ⟨h1, _⟩ | ⟨_, h2⟩
  · omega
  · exact absurd h1 h
  · omega

end Go.Proofs.YtogdchddmjokmaaGreatDoor
