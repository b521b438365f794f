/-
  Walks: a quotient by one limb.
-/
import Derived.Test.YtalblhcfkfockaaW4
namespace Go.Proofs.Ytalblhcfkfockaa
open Go.RowKit Lm
set_option linter.unusedSimpArgs false
set_option linter.unusedVariables false
set_option maxRecDepth 100000

theorem dv_t (r x d : Nat) (hr : r < d) (hd : d < 4294967296) (hx : x < 4294967296) : bits BinOp.or IntKind.u64 ((r : Int) * 4294967296) (x : Int) = ((r * 4294967296 + x : Nat) : Int) := by
  have e : ((r : Int) * 4294967296) = ((r * 4294967296 : Nat) : Int) := by omega
  rw [e, u64_or_nat _ _ (by omega) (by omega), nat_join 32 _ _ (by omega) (by omega)]
theorem dv_lt (r x d : Nat) (hr : r < d) (hx : x < 4294967296) : (r * 4294967296 + x) / d < 4294967296 := by
  rw [Nat.div_lt_iff_lt_mul (by omega)]
  have : (r + 1) * 4294967296 ≤ d * 4294967296 := Nat.mul_le_mul_right _ hr
  rw [Nat.mul_comm 4294967296 d]
  omega
theorem dv_q (r x d : Nat) (hr : r < d) (hx : x < 4294967296) : IntKind.u64.wrap (((r * 4294967296 + x : Nat) : Int).tdiv (d : Int)) % 4294967296 = (((r * 4294967296 + x) / d : Nat) : Int) := by
  have h := dv_lt r x d hr hx
  rw [← Int.ofNat_tdiv, IntKind.wrap_u64]
  generalize (r * 4294967296 + x) / d = q at *
  omega
theorem dv_step (q d r x t Q TT : Nat) (ht : t = r * 4294967296 + x) (hd : 0 < d) (hq : q = t / d) (hTT : TT = Q * d + r) : x + 4294967296 * TT = (q + 4294967296 * Q) * d + t % d := by
  have h := Nat.div_add_mod t d
  rw [← hq, Nat.mul_comm] at h
  rw [hTT, Nat.add_mul, Nat.mul_add, Nat.mul_assoc 4294967296 Q d]
  omega
theorem ret_u32 {a b : Int} (h : a = b) : Ending.returned (.int .u32 a) = .returned (.int .u32 b) := by rw [h]

set_option maxHeartbeats 800000 in
theorem divInto_any (w : World) (g cap : Nat) (A T : List Nat) (d : Nat) (hrow : RowAt w g (A ++ T)) (hok : ok A) (hl : A.length ≤ 1000000) (hc : A.length ≤ cap) (hd0 : 0 < d) (hd : d < 4294967296) (di : Int) (hdi : di = (d : Int)) :
    Calls Try.prog 93 #[.slice (some ⟨g, 0, none⟩) A.length cap, .int .u32 di] w fun e w' => ∃ (A' : List Nat) (r : Nat), e = .returned (.int .u32 (r : Int)) ∧ RowAt w' g (A' ++ T) ∧ A'.length = A.length ∧ ok A' ∧ val A = val A' * d + r ∧ r < d ∧ w.grownBy w' (some g) := by
  subst hdi
  go_enter Try.func93, Try.ntmps93
  go_wp2
  go_loopw [5, 6] (fun s i wr => ∃ (k r : Nat) (C : List Nat), k ≤ A.length ∧ i = .int .i64 ((k : Int) - 1) ∧ s = .int .u64 (r : Int) ∧ r < d ∧ Hid (C.length = A.length) ∧ ok C ∧ Hid (C.take k = A.take k) ∧ Hid (val (A.drop k) = val (C.drop k) * d + r) ∧ RowAt wr g (C ++ T) ∧ w.grownBy wr (some g)) (fun s i wr => (intOf i + 1).toNat)
  case atStart => exact ⟨A.length, 0, A, Nat.le_refl _, rfl, rfl, hd0, rfl, hok, rfl, by simp [val, Hid], hrow, grow_refl _ _⟩
  case round =>
    obtain ⟨k, r, C, hk, rfl, rfl, hr, HL, hokC, HT, HV, hrw, hgw⟩ := hrel
    by_cases hk0 : k = 0
    · subst hk0
      go_wp2
      go_ret
      have h1 := HV.out
      simp only [List.drop_zero] at h1
      exact ⟨C, r, rfl, hrw, HL.out, hokC, h1, hr, hgw⟩
    · have hx : wr.cell? ⟨g, k - 1, none⟩ = some (.int .u32 ((A.getD (k - 1) 0 : Nat) : Int)) := by
        rw [hrw.cell (k - 1) (by rw [List.length_append, HL.out]; omega), getD_append (by rw [HL.out]; omega), take_getD HT.out (by omega)]
      have hfz := hrw.frozen (k - 1)
      have hxb := ok_getD hok (k - 1)
      have HD := hid (drop_val A (k - 1) (by omega))
      obtain ⟨x, hxe⟩ : ∃ x, x = A.getD (k - 1) 0 := ⟨_, rfl⟩
      rw [← hxe] at hx hxb HD
      clear hxe
      have HT1 := hid (dv_t r x d hr hd hxb)
      have HQ := hid (dv_q r x d hr hxb)
      have hq := dv_lt r x d hr hxb
      go_wp2
      go_round
      case rel =>
        rw [HT1.out, HQ.out]
        refine ⟨k - 1, (r * 4294967296 + x) % d, C.set (k - 1) ((r * 4294967296 + x) / d), by omega, by go_num, by rw [Int.ofNat_tmod], Nat.mod_lt _ hd0, by rw [Hid, List.length_set]; exact HL.out, ok_set hokC _ _ hq, ?_, ?_, ?_, grow_set hgw _ _⟩
        · show List.take (k - 1) _ = _
          rw [set_take (Nat.le_refl _)]
          have := congrArg (List.take (k - 1)) HT.out
          simpa [List.take_take, Nat.min_eq_left (show k - 1 ≤ k by omega)] using this
        · show val (A.drop (k - 1)) = _
          rw [HD.out, show k - 1 + 1 = k by omega, set_drop (by rw [HL.out]; omega), show k - 1 + 1 = k by omega]
          exact dv_step _ d r x _ _ _ rfl hd0 rfl HV.out
        · have := hrw.set (k - 1) ((r * 4294967296 + x) / d)
          rwa [List.set_append_left _ _ (by rw [HL.out]; omega)] at this
      case measure => simp [intOf]; omega

end Go.Proofs.Ytalblhcfkfockaa
