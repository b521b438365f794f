/-
  Walks: the sign of a whole number, as package rat asks for it.
-/
import Derived.Test.YtiicjfacekldnaaEnv3
namespace Go.Proofs.Ytiicjfacekldnaa
open Go.RowKit Lm
set_option linter.unusedSimpArgs false
set_option linter.unusedVariables false
set_option maxRecDepth 100000

set_option maxHeartbeats 1600000 in
theorem sign_any (w : World) (u : Value) (n : Nat) (x : Int) (hx : Arg w u n x) :
    Calls Try.prog 83 #[u] w fun e w' => e = .returned (.int .i64 (cmpI x 0)) ∧ Below w.heap.size w w' := by
  have HX := hid hx
  obtain ⟨n1, s1, l1, rfl, -⟩ := hx
  go_enter Try.func83, Try.ntmps83
  go_wp2_with fail
  refine (cmp_num _ _ _ n 0 x 0 (HX.out.below (by repeat (first | exact Below.refl _ _ | refine Below.alloc ?_ ?_ _ | refine Below.setCell ?_ ?_ _ | refine Below.drew ?_ | refine below_drewN ?_ _ | (· simp) | omega | (· simp; omega) | exact Below.size (by assumption) | assumption | refine below_call ?_ (by assumption) ?_))) (arg_zero _)).mono ?_
  rintro e w1 ⟨rfl, hb1⟩
  have hW1 : Below w.heap.size w w1 := (by repeat (first | exact Below.refl _ _ | refine Below.alloc ?_ ?_ _ | refine Below.setCell ?_ ?_ _ | refine Below.drew ?_ | refine below_drewN ?_ _ | (· simp) | omega | (· simp; omega) | exact Below.size (by assumption) | assumption | refine below_call ?_ (by assumption) ?_))
  clear hb1
  go_wp2
  go_ret
  exact ⟨rfl, hW1⟩

set_option maxHeartbeats 1600000 in
theorem isOne_any (w : World) (u : Value) (n : Nat) (x : Int) (hx : Arg w u n x) :
    Calls Try.prog 87 #[u] w fun e w' => e = .returned (.bool (decide (x = 1))) ∧ Below w.heap.size w w' := by
  have HX := hid hx
  obtain ⟨n1, s1, l1, rfl, -⟩ := hx
  go_enter Try.func87, Try.ntmps87
  go_wp2_with fail
  have hW0 : Below w.heap.size w (w.alloc (.cells #[.bool n1, s1] 24)) := (by repeat (first | exact Below.refl _ _ | refine Below.alloc ?_ ?_ _ | refine Below.setCell ?_ ?_ _ | refine Below.drew ?_ | refine below_drewN ?_ _ | (· simp) | omega | (· simp; omega) | exact Below.size (by assumption) | assumption | refine below_call ?_ (by assumption) ?_))
  have E : Env w (w.alloc (.cells #[.bool n1, s1] 24)) [(w.heap.size, .bool n1, s1)] [(.agg #[.bool n1, s1], n, x)] [] := by
    refine Env.know ⟨?_, by simp, by simp, hW0⟩ (HX.out.below hW0)
    intro p hp
    simp only [List.mem_cons, List.not_mem_nil, or_false] at hp
    subst hp
    exact Box.new w _ _ _ rfl
  replace E := E.drew
  clear hW0
  go_region_held3 (fun W' => W'.cell? ⟨w.heap.size, 0, none⟩ = some (.bool n1) ∧ W'.cell? ⟨w.heap.size, 1, none⟩ = some s1) (exact cells1 E) (first
    | (go_at_call 64; go_must (refine (env_of E _ (by omega) (by omega)).mono ?_); rintro e wn ⟨nn, an, kn, cn, rfl, En⟩; clear E; have E := En; clear En)
    | (go_at_call 33; go_must (refine (env_cmp2 E (by repeat (first | exact List.Mem.head _ | refine List.Mem.tail _ ?_)) (by repeat (first | exact List.Mem.head _ | refine List.Mem.tail _ ?_))).mono ?_); rintro e wn ⟨rfl, En⟩; clear E; have E := En; clear En))
  have HD : Hid ((cmpI x 1 == 0) = decide (x = 1)) := hid (by
    by_cases h : x = 1
    · rw [cmpI_eq h, decide_eq_true h]; rfl
    · rw [decide_eq_false h]; simpa using cmpI_ne h)
  go_wp2
  go_ret
  exact ⟨ret_bool HD.out, E.bl⟩

end Go.Proofs.Ytiicjfacekldnaa
