/-
  Walks: shifts to the right; a limb times a divisor taken off; the guess of a limb.
-/
import Derived.Test.YtalblhcfkfockaaW20
import Derived.Test.YtalblhcfkfockaaW15
namespace Go.Proofs.Ytalblhcfkfockaa
open Go.RowKit Lm
set_option linter.unusedSimpArgs false
set_option linter.unusedVariables false
set_option maxRecDepth 100000

theorem down_t {x s : Nat} (hs : s < 32) : x * 4294967296 / 2 ^ s = x * 2 ^ (32 - s) := by
  have e : (4294967296 : Nat) = 2 ^ (32 - s) * 2 ^ s := by rw [← Nat.pow_add, show 32 - s + s = 32 by omega]
  rw [e, ← Nat.mul_assoc, Nat.mul_div_cancel _ (Nat.two_pow_pos s)]
theorem down_hi {x s : Nat} (hs : s < 32) : x * 2 ^ (32 - s) / 4294967296 = x / 2 ^ s := by
  have e : (4294967296 : Nat) = 2 ^ (32 - s) * 2 ^ s := by rw [← Nat.pow_add, show 32 - s + s = 32 by omega]
  rw [e, Nat.mul_comm x, Nat.mul_div_mul_left _ _ (Nat.two_pow_pos _)]

set_option maxHeartbeats 3200000 in
theorem shiftedDown_any (w : World) (ao : Option Addr) (ca ka : Nat) (A : List Nat) (hka : ka = A.length) (ha : SlAt w ao ca A) (hN : A.length ≤ 1000000) (s : Nat) (hs : s < 32) :
    Calls Try.prog 117 #[.slice ao ka ca, .int .i64 (s : Int)] w (Row w A.length (val A / 2 ^ s) w.heap.size) := by
  subst hka
  have hca := ha.2.2.1
  unfold maxLen at hca
  have hla := ha.2.1
  obtain ⟨i0, hi, hz0, hz1, hz2⟩ := info_parts Try.info32
  go_enter Try.func117, Try.ntmps117
  go_wp2_with (at_make; go_must (refine wpList_make_full _ rfl _ _ 25 rfl w.heap.size 73 i0 (.int .u32 0) 1 Try.underlying25 hi hz0 hz1 .i64 .i64 _ _ A.length rfl rfl (by omega) (by omega) (by rw [hz2]; omega) (by unfold maxLen; omega) (by simp) ?_); intro w1 hown hgrow; rw [made32] at hown; obtain ⟨hrow, _⟩ := rowAt_of_own hown; have hb1 : Below w.heap.size w w1 := (Below.refl _ _).grown hgrow (Nat.le_refl _) (by simp); clear hown hgrow)
  go_loopw [6, 7] (fun cv i wr => ∃ (k c d : Nat) (C : List Nat), k ≤ A.length ∧ i = .int .i64 ((k : Int) - 1) ∧ cv = .int .u32 (d : Int) ∧ d < 4294967296 ∧ Hid (d = 2 ^ (32 - s) * c) ∧ Hid (c < 2 ^ s) ∧ Hid (C.length = A.length) ∧ ok C ∧ Hid (val (A.drop k) = 2 ^ s * val (C.drop k) + c) ∧ RowAt wr w.heap.size C ∧ Below w.heap.size w wr) (fun _ i wr => (intOf i + 1).toNat)
  case atStart => exact ⟨A.length, 0, 0, _, Nat.le_refl _, rfl, rfl, by omega, by simp [Hid], Nat.two_pow_pos s, by simp [Hid], ok_replicate _, by simp [val, Hid], hrow, hb1⟩
  case round =>
    obtain ⟨k, c, d, C, hk, rfl, rfl, hd, HDc, HC, HL, hokC, HV, hrw, hbw⟩ := hrel
    by_cases hk0 : k = 0
    · subst hk0
      have HF : Hid (Row w A.length (val A / 2 ^ s) w.heap.size (.returned (.slice (some ⟨w.heap.size, 0, none⟩) A.length A.length)) wr) := by
        refine ⟨C, rfl, hrw, HL.out, hokC, ?_, hbw⟩
        have h1 := HV.out
        simp only [List.drop_zero] at h1
        exact down_end h1 HC.out
      go_wp2
      go_ret
      exact HF.out
    · rcases ha.2.2.2 with ⟨_, _⟩ | ⟨b, off, rfl, hltb, hcb⟩
      · omega
      have hx := (hbw.cell (p := ⟨b, off + (k - 1), none⟩) hltb).trans (hcb (k - 1) (by omega))
      have hxb := ok_getD ha.1 (k - 1)
      have HD := hid (drop_val A (k - 1) (by omega))
      have hz : wr.cell? ⟨w.heap.size, k - 1, none⟩ = some (.int .u32 ((C.getD (k - 1) 0 : Nat) : Int)) := hrw.cell (k - 1) (by rw [HL.out]; omega)
      have hfz := hrw.frozen (k - 1)
      obtain ⟨x, hxe⟩ : ∃ x, x = A.getD (k - 1) 0 := ⟨_, rfl⟩
      rw [← hxe] at hx hxb HD
      have HT := hid (down_t (x := x) hs)
      have HH := hid (down_hi (x := x) hs)
      have HR := hid (down_carry (x := x) hs)
      have HO := hid (down_limb (c := c) hs hxb)
      have HB := hid (down_lt hs hxb HC.out)
      have HX : Hid (x % 2 ^ s < 2 ^ s) := hid (Nat.mod_lt _ (Nat.two_pow_pos s))
      have HX2 : Hid (x / 2 ^ s < 4294967296) := hid (Nat.lt_of_le_of_lt (Nat.div_le_self _ _) hxb)
      clear hxe hcb
      go_wp2
      go_roundw
      case rel =>
        have e1 : (x : Int) * 4294967296 / 2 ^ s = ((x * 2 ^ (32 - s) : Nat) : Int) := by
          rw [← HT.out, Int.natCast_ediv, Int.natCast_mul, Int.natCast_pow]; rfl
        have e2 : ((x * 2 ^ (32 - s) : Nat) : Int) % 4294967296 = ((2 ^ (32 - s) * (x % 2 ^ s) : Nat) : Int) := by
          rw [← HR.out, Int.natCast_emod]; rfl
        have e3 : ((x * 2 ^ (32 - s) : Nat) : Int) / 4294967296 % 4294967296 = ((x / 2 ^ s : Nat) : Int) := by
          have h1 : ((x * 2 ^ (32 - s) : Nat) : Int) / 4294967296 = ((x / 2 ^ s : Nat) : Int) := by
            rw [← HH.out, Int.natCast_ediv]; rfl
          rw [h1]
          have := HX2.out
          generalize x / 2 ^ s = q at *
          omega
        have e4 : bits BinOp.or IntKind.u32 ((x / 2 ^ s : Nat) : Int) (d : Int) = ((x / 2 ^ s + d : Nat) : Int) := by
          rw [u32_or_nat _ _ HX2.out hd, HDc.out, HO.out]
        rw [e1, e2, e3, e4]
        have hb2 : x / 2 ^ s + d < 4294967296 := by rw [HDc.out]; exact HB.out
        refine ⟨k - 1, x % 2 ^ s, 2 ^ (32 - s) * (x % 2 ^ s), C.set (k - 1) (x / 2 ^ s + d), by omega, by go_num, rfl, by rw [← HR.out]; exact Nat.mod_lt _ (by omega), rfl, HX.out, by rw [Hid, List.length_set]; exact HL.out, ok_set hokC _ _ hb2, ?_, hrw.set _ _, hbw.setCell (by simp) _⟩
        show val (A.drop (k - 1)) = _
        rw [HD.out, set_drop (by rw [HL.out]; omega), show k - 1 + 1 = k by omega, HDc.out]
        simp only [val]
        exact down_step hs HV.out
      case measure => simp [intOf]; omega

end Go.Proofs.Ytalblhcfkfockaa
