/-
  Plain mathematics: how deep may what stand in one another: as facts.
-/
import Derived.Test.YtfknamdccnaigaaDoorQ25a
import Derived.Test.YtfknamdccnaigaaDoorQ25c
import Derived.Test.YtfknamdccnaigaaDoorQ25d
import Derived.Test.YtfknamdccnaigaaDoorQ25e
namespace Go.Proofs.YtfknamdccnaigaaDoor
open Go.RowKit Lx
set_option linter.unusedSimpArgs false
set_option linter.unusedVariables false
set_option maxRecDepth 100000

theorem deepS_of {c K : Nat} (hc : c < 4) (h1 : 1 ≤ K) (h2 : K ≤ 60) : (progS (deepS c K)).2 = (if K ≤ 50 then (0, 0) else (5, (bgD c).length + 50 * (1 + (ahD c).length) + 1)) := by
  obtain ⟨j, rfl⟩ : ∃ j, K = j + 1 := ⟨K - 1, by omega⟩
  have h : (List.range 60).all (okS c) = true := by
    match c, hc with
    | 0, _ => exact deepS_0
    | 1, _ => exact deepS_1
    | 2, _ => exact deepS_2
    | 3, _ => exact deepS_3
  have h3 := List.all_eq_true.mp h j (List.mem_range.mpr (by omega))
  unfold okS at h3
  have h4 := of_decide_eq_true (by simpa using h3 : decide ((progS (deepS c (j + 1))).2 = (if j < 50 then (0, 0) else (5, (bgD c).length + 50 * (1 + (ahD c).length) + 1))) = true)
  rw [h4]
  rfl
theorem deepT_of {K : Nat} (h1 : 1 ≤ K) (h2 : K ≤ 60) : (progS (deepT K)).2 = (if K ≤ 50 then (0, 0) else (5, 521)) := by
  obtain ⟨j, rfl⟩ : ∃ j, K = j + 1 := ⟨K - 1, by omega⟩
  have h3 : okTt j = true := by
    by_cases hj : j < 30
    · exact List.all_eq_true.mp deepT_0a j (List.mem_range.mpr hj)
    · have h := List.all_eq_true.mp deepT_0b (j - 30) (List.mem_range.mpr (by omega))
      rw [show j - 30 + 30 = j by omega] at h
      exact h
  unfold okTt at h3
  have h4 := of_decide_eq_true (by simpa using h3 : decide ((progS (deepT (j + 1))).2 = (if j < 50 then (0, 0) else (5, 521))) = true)
  rw [h4]
  rfl
theorem rep_more (k : Nat) (l : List Nat) : rep k l ++ l = rep (k + 1) l := by
  induction k with
  | zero => simp [rep]
  | succ k ih =>
    show (l ++ rep k l) ++ l = l ++ rep (k + 1) l
    rw [List.append_assoc, ih]
theorem rep_len (k : Nat) (l : List Nat) : (rep k l).length = k * l.length := by
  induction k with
  | zero => simp [rep]
  | succ k ih =>
    show (l ++ rep k l).length = _
    rw [List.length_append, ih, Nat.succ_mul, Nat.add_comm]
end Go.Proofs.YtfknamdccnaigaaDoor
