/-
  Walks: the law RatForms.
-/
import Derived.Test.YtalblhcfkfockaaDA
import Derived.Test.YtalblhcfkfockaaG5a
namespace Go.Proofs.Ytalblhcfkfockaa
open Go.RowKit Lm
set_option linter.unusedSimpArgs false
set_option linter.unusedVariables false
set_option maxRecDepth 100000

set_option maxHeartbeats 3200000 in
theorem sameZero_any (w : World) :
    Calls Try.prog 29 #[.agg #[.bool false, .slice none 0 0, .bool false, .slice none 0 0], .agg #[.bool false, .slice none 0 0, .bool false, .slice none 0 0]] w fun e w' => e = .returned (.bool true) ∧ Below w.heap.size w w' := by
  go_enter Try.func29, Try.ntmps29
  go_wp2_with fail
  have hW0 : Below w.heap.size w ((w.alloc (.cells #[.bool false, .slice none 0 0, .bool false, .slice none 0 0] 29)).alloc (.cells #[.bool false, .slice none 0 0, .bool false, .slice none 0 0] 29)) := (by repeat (first | exact Below.refl _ _ | refine Below.alloc ?_ ?_ _ | refine Below.setCell ?_ ?_ _ | refine Below.drew ?_ | refine below_drewN ?_ _ | (· simp) | omega | (· simp; omega) | exact Below.size (by assumption) | assumption | refine below_call ?_ (by assumption) ?_))
  have bA : Box4 ((w.alloc (.cells #[.bool false, .slice none 0 0, .bool false, .slice none 0 0] 29)).alloc (.cells #[.bool false, .slice none 0 0, .bool false, .slice none 0 0] 29)) w.heap.size (.bool false) (.slice none 0 0) (.bool false) (.slice none 0 0) := (Box4.new _ _ _ _ _ _ rfl).alloc _
  have bB : Box4 ((w.alloc (.cells #[.bool false, .slice none 0 0, .bool false, .slice none 0 0] 29)).alloc (.cells #[.bool false, .slice none 0 0, .bool false, .slice none 0 0] 29)) (w.heap.size + 1) (.bool false) (.slice none 0 0) (.bool false) (.slice none 0 0) := Box4.new _ _ _ _ _ _ (by simp)
  generalize ((w.alloc (.cells #[.bool false, .slice none 0 0, .bool false, .slice none 0 0] 29)).alloc (.cells #[.bool false, .slice none 0 0, .bool false, .slice none 0 0] 29)) = W0 at *
  refine (same_num _ _ _ 0 0 0 0 0 0 (is_zero _) (is_zero _)).mono ?_
  rintro e w1 ⟨rfl, hb1⟩
  have hW1 := below_call hW0 hb1 hW0.size
  obtain ⟨x0, x1, x2, x3, y0, y1, y2, y3⟩ := keep44 bA bB hb1
  have lA := (bA.keep hb1).lt
  have lB := (bB.keep hb1).lt
  clear hb1 bA bB hW0
  rw [decide_eq_true (rfl : (0 : Int) = 0)]
  go_wp2_with fail
  refine (same_num _ _ _ 0 0 0 0 0 0 (is_zero _) (is_zero _)).mono ?_
  rintro e w2 ⟨rfl, hb2⟩
  have hW2 := below_call hW1 hb2 hW1.size
  clear hb2 x0 x1 x2 x3 y0 y1 y2 y3
  rw [decide_eq_true (rfl : (0 : Int) = 0)]
  go_wp2
  go_ret
  exact ⟨rfl, hW2⟩

section
variable {U W W' : World} {KA KI : List (Value × Nat × Int)} {KR KS : List (Value × Nat × Rat)} {u v : Value} {n m : Nat} {x y : Int} {r t : Rat}
theorem re_rquo (E : RE U W KA KI KR KS) (hu : (u, n, x) ∈ KA) (hv : (v, m, y) ∈ KA) (hy : y ≠ 0) (hn : n ≤ 50000) (hm : m ≤ 50000) : Calls Try.prog 20 #[u, v] W (SaysE U KA KI KR KS (n + m) (Rat.divInt x y)) := by
  refine (rquo_any W u v n m x y (E.a _ hu) (E.a _ hv) hy hn hm).mono ?_
  rintro e w' ⟨n1, a1, k1, c1, n2, a2, k2, c2, rfl, hI, hb⟩
  exact ⟨n1, a1, k1, c1, n2, a2, k2, c2, rfl, (E.step hb).knowS hI⟩
theorem re_rquoz (E : RE U W KA KI KR KS) (hu : (u, n, x) ∈ KA) (hv : (v, m, y) ∈ KA) (hy : y = 0) (hn : n ≤ 50000) (hm : m ≤ 50000) : Calls Try.prog 20 #[u, v] W fun e w' => e = .returned (.tuple #[.agg #[.bool false, .slice none 0 0, .bool false, .slice none 0 0], .int .i64 11]) ∧ RE U w' KA KI KR KS := by
  refine (rquo_zero W u v n m x y (E.a _ hu) (E.a _ hv) hy hn hm).mono ?_
  rintro e w' ⟨rfl, hb⟩
  exact ⟨rfl, E.step hb⟩
end

end Go.Proofs.Ytalblhcfkfockaa
