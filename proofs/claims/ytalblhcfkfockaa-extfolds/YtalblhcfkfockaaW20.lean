/-
  Walks: the highest bit of a limb; shifts of limbs.
-/
import Derived.Test.YtalblhcfkfockaaW12
import Derived.Test.YtalblhcfkfockaaLng
import Derived.Lib.Tables
import Derived.Lib.BitFns
namespace Go.Proofs.Ytalblhcfkfockaa
open Go.RowKit Lm
set_option linter.unusedSimpArgs false
set_option linter.unusedVariables false
set_option maxRecDepth 100000

theorem tab8 (i : Nat) (h : i < Lib.len8tab.size) : ((Lib.len8tab[i].toNat : Nat) : Int) = (Lib.bitLen i : Int) := by
  have h2 : i < 256 := by rw [← Lib.len8tab_size]; exact h
  have h1 := Lib.len8_eq ⟨i, h2⟩
  unfold Lib.len8 at h1
  simp only [Int.toNat_natCast] at h1
  rw [← h1, getElem?_pos Lib.len8tab i h]
  rfl

theorem wrapSum (k : Int) (a b : Nat) (h : (b : Int) = k + (a : Int)) (h0 : 0 ≤ k) (hb : b ≤ 32) : wrap64 (k + wrap64 (a : Int)) = (b : Int) := by
  unfold wrap64; omega
theorem wrapTwo (b : Nat) (hb : b ≤ 32) : wrap64 (wrap64 (b : Int)) = (b : Int) := by
  unfold wrap64; omega

set_option maxHeartbeats 4000000 in
theorem len32_any (x : Int) (w : World) (h0 : 0 ≤ x) (h1 : x ≤ 4294967295) :
    Calls Try.prog 119 #[.int .u32 x] w fun e w' => e = .returned (.int .i64 (Lib.bitLen x.toNat)) ∧ w' = w := by
  have hsz : Lib.len8tab.size = 256 := Lib.len8tab_size
  go_enter Try.func119, Try.ntmps119
  go_wp2
  all_goals (go_ret; refine ⟨congrArg Ending.returned (congrArg (Value.int IntKind.i64) ?_), rfl⟩; rw [tab8])
  · have e : (x / 65536 / 256).toNat = x.toNat / 16777216 := by omega
    rw [e]
    exact wrapSum 24 _ _ (by rw [Lib.bitLen_shift24 x.toNat (by omega) (by omega), Int.natCast_add]; rfl) (by decide) (Lib.bitLen_le x.toNat 32 (by decide) (by omega))
  · have e : (x / 65536).toNat = x.toNat / 65536 := by omega
    rw [e]
    exact wrapSum 16 _ _ (by rw [Lib.bitLen_shift16 x.toNat (by omega) (by omega), Int.natCast_add]; rfl) (by decide) (Lib.bitLen_le x.toNat 32 (by decide) (by omega))
  · have e : (x / 256).toNat = x.toNat / 256 := by omega
    rw [e]
    exact wrapSum 8 _ _ (by rw [Lib.bitLen_shift8 x.toNat (by omega) (by omega), Int.natCast_add]; rfl) (by decide) (Lib.bitLen_le x.toNat 32 (by decide) (by omega))
  · exact wrapTwo _ (Lib.bitLen_le x.toNat 32 (by decide) (by omega))

theorem bitLen_spec (k x : Nat) (h0 : x ≠ 0) (hk : x < 2 ^ k) (h : x < 2 ^ 64) : 2 ^ (Lib.bitLen x - 1) ≤ x ∧ x < 2 ^ Lib.bitLen x ∧ 0 < Lib.bitLen x := by
  induction k generalizing x with
  | zero => simp at hk; omega
  | succ k ih =>
    have e := Lib.bitLen_half x h0 h
    by_cases h1 : x / 2 = 0
    · have hx : x = 1 := by omega
      subst hx
      decide
    · rw [Nat.pow_succ] at hk
      have h2 := ih (x / 2) h1 (by omega) (by omega)
      obtain ⟨m, hm⟩ : ∃ m, Lib.bitLen (x / 2) = m + 1 := ⟨Lib.bitLen (x / 2) - 1, by omega⟩
      rw [e, hm]
      rw [hm, Nat.add_sub_cancel, Nat.pow_succ] at h2
      rw [show 1 + (m + 1) - 1 = m + 1 by omega, show 1 + (m + 1) = m + 1 + 1 by omega, Nat.pow_succ, Nat.pow_succ]
      omega

set_option maxHeartbeats 800000 in
theorem lead_any (x : Nat) (w : World) (h0 : 0 < x) (h1 : x < 4294967296) :
    Calls Try.prog 112 #[.int .u32 (x : Int)] w fun e w' => ∃ s : Nat, e = .returned (.int .i64 (s : Int)) ∧ w' = w ∧ s < 32 ∧ x * 2 ^ s < 4294967296 ∧ 4294967296 ≤ 2 * (x * 2 ^ s) := by
  have hs := bitLen_spec 32 x (by omega) (by omega) (by omega)
  have hle := Lib.bitLen_le x 32 (by omega) (by omega)
  obtain ⟨b, hb⟩ : ∃ b, b = Lib.bitLen x := ⟨_, rfl⟩
  rw [← hb] at hs hle
  have HB := hid hb
  have hx1 : x * 2 ^ (32 - b) < 4294967296 := by
    have := Nat.mul_lt_mul_of_pos_right hs.2.1 (Nat.two_pow_pos (32 - b))
    rwa [← Nat.pow_add, show b + (32 - b) = 32 by omega] at this
  have hx2 : 4294967296 ≤ 2 * (x * 2 ^ (32 - b)) := by
    have := Nat.mul_le_mul_right (2 ^ (32 - b)) hs.1
    rw [← Nat.pow_add, show b - 1 + (32 - b) = 31 by omega] at this
    omega
  have H1 := hid hx1
  have H2 := hid hx2
  have hb0 := hs.2.2
  clear hx1 hx2 hs hb
  go_enter Try.func112, Try.ntmps112
  go_wp2_with fail
  refine (len32_any (x : Int) _ (by omega) (by omega)).mono ?_
  rintro e w1 ⟨rfl, rfl⟩
  rw [show ((x : Int)).toNat = x by omega, ← HB.out]
  go_wp2
  go_ret
  refine ⟨32 - b, ?_, rfl, by omega, H1.out, H2.out⟩
  exact ret_int (by omega)

/-- Limbs in a row of their own. -/
def Row (W : World) (L V : Nat) (g : Nat) (e : Ending) (w' : World) : Prop :=
  ∃ R : List Nat, e = .returned (.slice (some ⟨g, 0, none⟩) L L) ∧ RowAt w' g R ∧ R.length = L ∧ ok R ∧ val R = V ∧ Below W.heap.size W w'

set_option maxHeartbeats 3200000 in
theorem shiftedUp_any (w : World) (ao : Option Addr) (ca : Nat) (A : List Nat) (ha : SlAt w ao ca A) (hN : A.length ≤ 1000000) (s : Nat) (hs : s < 32) :
    Calls Try.prog 113 #[.slice ao A.length ca, .int .i64 (s : Int)] w (Row w (A.length + 1) (val A * 2 ^ s) w.heap.size) := by
  have hca := ha.2.2.1
  unfold maxLen at hca
  have hla := ha.2.1
  obtain ⟨i0, hi, hz0, hz1, hz2⟩ := info_parts Try.info32
  go_enter Try.func113, Try.ntmps113
  go_wp2_with (at_make; go_must (refine wpList_make_full _ rfl _ _ 25 rfl w.heap.size 73 i0 (.int .u32 0) 1 Try.underlying25 hi hz0 hz1 .i64 .i64 _ _ (A.length + 1) rfl rfl (by omega) (by omega) (by rw [hz2]; omega) (by unfold maxLen; omega) (by simp) ?_); intro w1 hown hgrow; rw [made32] at hown; obtain ⟨hrow, _⟩ := rowAt_of_own hown; have hb1 : Below w.heap.size w w1 := (Below.refl _ _).grown hgrow (Nat.le_refl _) (by simp); clear hown hgrow)
  go_loopw [6, 16] (fun cv i wr => ∃ (k c : Nat) (C : List Nat), k ≤ A.length ∧ i = .int .i64 (k : Int) ∧ cv = .int .u32 (c : Int) ∧ Hid (c < 2 ^ s) ∧ Hid (C.length = A.length + 1) ∧ ok C ∧ Hid (val (C.take k) + pw k * c = val (A.take k) * 2 ^ s) ∧ RowAt wr w.heap.size C ∧ Below w.heap.size w wr) (fun _ i wr => A.length - (intOf i).toNat)
  case atStart => exact ⟨0, 0, _, Nat.zero_le _, rfl, rfl, Nat.two_pow_pos s, by simp [Hid], ok_replicate _, by simp [val, Hid], hrow, hb1⟩
  case round =>
    obtain ⟨k, c, C, hk, rfl, rfl, HC, HL, hokC, HV, hrw, hbw⟩ := hrel
    by_cases hlt : k < A.length
    · rcases ha.2.2.2 with ⟨_, _⟩ | ⟨b, off, rfl, hltb, hcb⟩
      · omega
      have hx := (hbw.cell (p := ⟨b, off + k, none⟩) hltb).trans (hcb k hlt)
      have hxb := ok_getD ha.1 k
      have HT := hid (up_step (s := s) (C := C) (c := c) (by rw [HL.out]; omega) hlt HV.out)
      have hz : wr.cell? ⟨w.heap.size, k, none⟩ = some (.int .u32 ((C.getD k 0 : Nat) : Int)) := hrw.cell k (by rw [HL.out]; omega)
      have hfz := hrw.frozen k
      obtain ⟨x, hxe⟩ : ∃ x, x = A.getD k 0 := ⟨_, rfl⟩
      rw [← hxe] at hx hxb HT
      clear hxe hcb
      have hm : x * 2 ^ s < 18446744073709551616 := by
        have h1 : 2 ^ s ≤ 2147483648 := by
          have := Nat.pow_le_pow_right (show 0 < 2 by omega) (show s ≤ 31 by omega)
          simpa using this
        have := Nat.mul_le_mul (show x ≤ 4294967296 by omega) h1
        omega
      have HP := hid (up_limb (x := x) hs HC.out)
      have HQ := hid (up_carry (s := s) hxb)
      have hc32 : c < 4294967296 := by
        have h1 : 2 ^ s ≤ 2147483648 := by
          have := Nat.pow_le_pow_right (show 0 < 2 by omega) (show s ≤ 31 by omega)
          simpa using this
        have := HC.out
        omega
      have hq32 : x * 2 ^ s / 4294967296 < 4294967296 := by omega
      obtain ⟨m, hme⟩ : ∃ m, m = x * 2 ^ s := ⟨_, rfl⟩
      have HM : Hid ((x : Int) * 2 ^ s = (m : Int)) := hid (by rw [hme]; simp)
      rw [← hme] at HT HP HQ hm hq32
      have HO : Hid (bits BinOp.or IntKind.u32 (IntKind.u64.wrap (m : Int) % 4294967296) (c : Int) = ((m % 4294967296 + c : Nat) : Int)) := hid (by
        rw [IntKind.wrap_u64, show ((m : Int) % 18446744073709551616) % 4294967296 = ((m % 4294967296 : Nat) : Int) by omega]
        rw [u32_or_nat _ _ (by omega) (by omega), HP.out])
      have hlt2 : m % 4294967296 + c < 4294967296 := by
        rw [← HP.out]
        exact Nat.or_lt_two_pow (n := 32) (by omega) (by omega)
      have HC2 : Hid (IntKind.u64.wrap (m : Int) / 4294967296 % 4294967296 = ((m / 4294967296 : Nat) : Int)) := hid (by
        rw [IntKind.wrap_u64]; omega)
      clear hme
      go_wp2
      go_roundw
      case rel =>
        rw [HM.out, HO.out, HC2.out]
        exact ⟨k + 1, m / 4294967296, C.set k (m % 4294967296 + c), by omega, by go_num, rfl, HQ.out, by rw [Hid, List.length_set]; exact HL.out, ok_set hokC _ _ hlt2, HT.out, hrw.set k _, hbw.setCell (by simp) _⟩
      case measure => simp [intOf]; omega
    · have hkA : k = A.length := by omega
      subst hkA
      have hz : wr.cell? ⟨w.heap.size, A.length, none⟩ = some (.int .u32 ((C.getD A.length 0 : Nat) : Int)) := hrw.cell A.length (by rw [HL.out]; omega)
      have hfz := hrw.frozen A.length
      have HF : Hid (Row w (A.length + 1) (val A * 2 ^ s) w.heap.size (.returned (.slice (some ⟨w.heap.size, 0, none⟩) (A.length + 1) (A.length + 1))) (wr.setCell ⟨w.heap.size, A.length, none⟩ (.int .u32 (c : Int)))) := by
        refine ⟨C.set A.length c, rfl, hrw.set _ _, by rw [List.length_set]; exact HL.out, ok_set hokC _ _ ?_, ?_, hbw.setCell (by simp) _⟩
        · have h1 : 2 ^ s ≤ 2147483648 := by
            have := Nat.pow_le_pow_right (show 0 < 2 by omega) (show s ≤ 31 by omega)
            simpa using this
          have := HC.out
          omega
        · have h1 := take_set_succ (C := C) (k := A.length) (s := c) (by rw [HL.out]; omega)
          rw [List.take_of_length_le (by rw [List.length_set, HL.out]; omega)] at h1
          rw [h1, HV.out, List.take_length]
      go_wp2
      go_ret
      exact HF.out

end Go.Proofs.Ytalblhcfkfockaa
