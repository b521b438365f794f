/-
  Walks: sums of limbs.
-/
import Derived.Test.YtalblhcfkfockaaW10
namespace Go.Proofs.Ytalblhcfkfockaa
open Go.RowKit Lm
set_option linter.unusedSimpArgs false
set_option linter.unusedVariables false
set_option maxRecDepth 100000

theorem RowAt.cellO {w : World} {g o k : Nat} {P C T : List Nat} (h : RowAt w g (P ++ (C ++ T))) (ho : o = P.length) (hk : k < C.length) : w.cell? ⟨g, o + k, none⟩ = some (.int .u32 ((C.getD k 0 : Nat) : Int)) := by
  subst ho
  rw [h.cell (P.length + k) (by simp; omega)]
  have e : (P ++ (C ++ T))[P.length + k]? = C[k]? := by
    rw [List.getElem?_append_right (by omega), show P.length + k - P.length = k by omega, List.getElem?_append_left hk]
  rw [List.getD_eq_getElem?_getD, e, List.getD_eq_getElem?_getD]
theorem RowAt.setO {w : World} {g o k x : Nat} {P C T : List Nat} (h : RowAt w g (P ++ (C ++ T))) (ho : o = P.length) (hk : k < C.length) : RowAt (w.setCell ⟨g, o + k, none⟩ (.int .u32 (x : Int))) g (P ++ (C.set k x ++ T)) := by
  subst ho
  have := h.set (P.length + k) x
  rw [List.set_append_right _ _ (by omega), show P.length + k - P.length = k by omega, List.set_append_left _ _ hk] at this
  exact this

theorem wrap_add (x y : Int) : IntKind.u32.wrap (x + y) = (x + y) % 4294967296 := IntKind.wrap_u32 _

theorem ret_uu {a b c d : Int} (h : a = c) (k : b = d) : Ending.returned (.tuple #[.int .u32 a, .int .u32 b]) = .returned (.tuple #[.int .u32 c, .int .u32 d]) := by rw [h, k]

set_option maxHeartbeats 800000 in
theorem addWords_any (w : World) (x y c : Nat) (hx : x < 4294967296) (hy : y < 4294967296) (hc : c ≤ 1) (yi : Int) (hyi : yi = (y : Int)) :
    Calls Try.prog 120 #[.int .u32 (x : Int), .int .u32 yi, .int .u32 (c : Int)] w fun e w' => ∃ s c' : Nat, e = .returned (.tuple #[.int .u32 (s : Int), .int .u32 (c' : Int)]) ∧ w' = w ∧ Hid (s + 4294967296 * c' = x + y + c) ∧ s < 4294967296 ∧ c' ≤ 1 := by
  subst hyi
  go_enter Try.func120, Try.ntmps120
  go_wp2
  · go_ret2
    refine ⟨(x + y + c) % 4294967296, 1, ?_, rfl, ?_, Nat.mod_lt _ (by omega), by omega⟩
    · exact ret_uu (by omega) (by omega)
    · show _ = _
      omega
  · go_ret2
    refine ⟨(x + y + c) % 4294967296, 0, ?_, rfl, ?_, Nat.mod_lt _ (by omega), by omega⟩
    · exact ret_uu (by omega) (by omega)
    · show _ = _
      omega
  · go_ret2
    refine ⟨(x + y + c) % 4294967296, 1, ?_, rfl, ?_, Nat.mod_lt _ (by omega), by omega⟩
    · exact ret_uu (by omega) (by omega)
    · show _ = _
      omega

set_option maxHeartbeats 800000 in
theorem subWords_any (w : World) (x y c : Nat) (hx : x < 4294967296) (hy : y < 4294967296) (hc : c ≤ 1) (yi : Int) (hyi : yi = (y : Int)) :
    Calls Try.prog 121 #[.int .u32 (x : Int), .int .u32 yi, .int .u32 (c : Int)] w fun e w' => ∃ s c' : Nat, e = .returned (.tuple #[.int .u32 (s : Int), .int .u32 (c' : Int)]) ∧ w' = w ∧ Hid (x + 4294967296 * c' = s + y + c) ∧ s < 4294967296 ∧ c' ≤ 1 := by
  subst hyi
  go_enter Try.func121, Try.ntmps121
  go_wp2
  · go_ret2
    refine ⟨(x + 8589934592 - y - c) % 4294967296, 1, ?_, rfl, ?_, Nat.mod_lt _ (by omega), by omega⟩
    · exact ret_uu (by omega) (by omega)
    · show _ = _
      omega
  · go_ret2
    refine ⟨(x + 8589934592 - y - c) % 4294967296, 0, ?_, rfl, ?_, Nat.mod_lt _ (by omega), by omega⟩
    · exact ret_uu (by omega) (by omega)
    · show _ = _
      omega
  · go_ret2
    refine ⟨(x + 8589934592 - y - c) % 4294967296, 1, ?_, rfl, ?_, Nat.mod_lt _ (by omega), by omega⟩
    · exact ret_uu (by omega) (by omega)
    · show _ = _
      omega

theorem nan32 (w : World) (x : Int) : Calls Try.prog 99 #[.int .u32 x] w fun e w' => e = .returned (.bool false) ∧ w' = w := by
  go_enter Try.func99, Try.ntmps99
  go_wp2
  go_ret
  exact ⟨ret_bool (by simp), rfl⟩
theorem nanInt (w : World) (x : Int) : Calls Try.prog 47 #[.int .i64 x] w fun e w' => e = .returned (.bool false) ∧ w' = w := by
  go_enter Try.func47, Try.ntmps47
  go_wp2
  go_ret
  exact ⟨ret_bool (by simp), rfl⟩

/-- -1, 0, 1: below, just, above. -/
def cmpI (x y : Int) : Int := if x < y then -1 else if y < x then 1 else 0

theorem compare32 (w : World) (x y : Int) : Calls Try.prog 84 #[.int .u32 x, .int .u32 y] w fun e w' => e = .returned (.int .i64 (cmpI x y)) ∧ w' = w := by
  go_enter Try.func84, Try.ntmps84
  go_wp2_with (go_at_call 99; refine (nan32 _ _).mono ?_; rintro e w' ⟨rfl, rfl⟩)
  all_goals
    go_ret
    exact ⟨ret_int (by unfold cmpI; first | (rw [if_pos (by omega)]) | (rw [if_neg (by omega), if_pos (by omega)]) | (rw [if_neg (by omega), if_neg (by omega)])), rfl⟩
theorem compareInt (w : World) (x y : Int) : Calls Try.prog 28 #[.int .i64 x, .int .i64 y] w fun e w' => e = .returned (.int .i64 (cmpI x y)) ∧ w' = w := by
  go_enter Try.func28, Try.ntmps28
  go_wp2_with (go_at_call 47; refine (nanInt _ _).mono ?_; rintro e w' ⟨rfl, rfl⟩)
  all_goals
    go_ret
    exact ⟨ret_int (by unfold cmpI; first | (rw [if_pos (by omega)]) | (rw [if_neg (by omega), if_pos (by omega)]) | (rw [if_neg (by omega), if_neg (by omega)])), rfl⟩

end Go.Proofs.Ytalblhcfkfockaa
