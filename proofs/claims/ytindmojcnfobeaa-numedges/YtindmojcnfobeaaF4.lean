/-
  Walks: the law NumEdges.
-/
import Derived.Test.YtindmojcnfobeaaEnv
namespace Go.Proofs.Ytindmojcnfobeaa
open Go.RowKit Lm
set_option linter.unusedSimpArgs false
set_option linter.unusedVariables false

theorem val_limb (k : Nat) : val (List.replicate k 0 ++ [1]) = pw k := by
  rw [val_append, val_replicate]; simp [val]
theorem ok_limb (k : Nat) : ok (List.replicate k 0 ++ [1]) := ok_append.2 ⟨ok_replicate k, by rw [ok_cons]; exact ⟨by omega, ok_nil⟩⟩
theorem may_limb (k : Nat) : mayB false (List.replicate k 0 ++ [1]) = true := by
  unfold mayB
  rw [if_neg (by simp)]
  simp [List.getD_eq_getElem?_getD, List.getElem?_append]

set_option maxHeartbeats 1600000 in
theorem limb_any (w : World) (k : Nat) (hk : k ≤ 1000) (ki : Int) (hki : ki = (k : Int)) :
    Calls Try.prog 43 #[.int .i64 ki] w (Told w.heap.size (k + 1) (pw k : Int) w) := by
  subst hki
  obtain ⟨i0, hi, hz0, hz1, hz2⟩ := info_parts Try.info32
  go_enter Try.func43, Try.ntmps43
  go_wp2_with (at_make; go_must (refine wpList_make_full _ rfl _ _ 22 rfl (w.heap.size + 1) 51 i0 (.int .u32 0) 1 Try.underlying22 hi hz0 hz1 .i64 .i64 _ _ (k + 1) rfl rfl (by omega) (by omega) (by rw [hz2]; omega) (by unfold maxLen; omega) (by simp) ?_); intro w1 hown hgrow; rw [made32] at hown; obtain ⟨hrow, _⟩ := rowAt_of_own hown; have hb1 : Below (w.heap.size + 1) (w.alloc (.cells #[.bool false, .slice none 0 0] 24)) w1 := (Below.refl _ _).grown hgrow (by simp) (by simp); simp only [asize] at hrow; have bx := (Box.new w (.bool false) (.slice none 0 0) w.heap.size rfl).below hb1 (by simp); have x0 := bx.c0; have x1 := bx.c1; have xf := bx.f; have hc := hrow.cell k (by simp); have hf := hrow.frozen k; clear hown hgrow)
  · have e1 : (List.replicate (k + 1) 0).set k 1 = List.replicate k 0 ++ [1] := by
      rw [List.replicate_succ', List.set_append_right _ _ (by simp)]
      simp
    have hr2 := hrow.set k 1
    rw [e1] at hr2
    have hW : Below w.heap.size w w1 := ((Below.refl _ _).alloc (Nat.le_refl _) _).trans (hb1.mono (by omega))
    refine bodyPost_ret (v := .agg #[.bool false, .slice (some ⟨w.heap.size + 1, 0, none⟩) (k + 1) (k + 1)]) ?_ rfl ⟨_, _, _, _, rfl, ?_, ?_⟩
    · simp [results, Try.results43, go_sem, x0, x1]
    · refine ⟨false, some ⟨w.heap.size + 1, 0, none⟩, k + 1, List.replicate k 0 ++ [1], by simp, ?_, from_row _ _ _ (by omega), by simp, may_limb k, by rw [val_limb]; simp [sgn]⟩
      have h3 := hr2.whole (ok_limb k) (by simp; omega)
      simp only [List.length_append, List.length_replicate, List.length_cons, List.length_nil, Nat.zero_add] at h3
      exact ((h3.setCell (from_row (w.heap.size + 1) _ _ (Nat.le_refl _)) (by simp) _).setCell (from_row (w.heap.size + 1) _ _ (Nat.le_refl _)) (by simp) _)
    · exact ((hW.setCell (by simp) _).setCell (by simp) _).setCell (by simp) _

end Go.Proofs.Ytindmojcnfobeaa
