/-
  Walks: products of limbs.
-/
import Derived.Test.YtalblhcfkfockaaW14
namespace Go.Proofs.Ytalblhcfkfockaa
open Go.RowKit Lm
set_option linter.unusedSimpArgs false
set_option linter.unusedVariables false
set_option maxRecDepth 100000

theorem times_step {A B C : List Nat} {k c s c' x : Nat} (hkC : k < C.length) (hkA : k < A.length) (hkB : k < B.length) (hv : val (C.take k) + pw k * c = val (A.take k) + x * val (B.take k)) (hs : s + 4294967296 * c' = x * B.getD k 0 + A.getD k 0 + c) :
    val ((C.set k s).take (k + 1)) + pw (k + 1) * c' = val (A.take (k + 1)) + x * val (B.take (k + 1)) := by
  rw [take_set_succ hkC, val_take_succ A k hkA, val_take_succ B k hkB, pw_succ_mul]
  have h1 := congrArg (pw k * ·) hs
  simp only [Nat.mul_add] at h1
  have h2 : x * (pw k * B.getD k 0) = pw k * (x * B.getD k 0) := by rw [← Nat.mul_assoc, Nat.mul_comm x, Nat.mul_assoc]
  rw [Nat.mul_add, h2]
  omega
theorem mul_bound {x y : Nat} (hx : x < 4294967296) (hy : y < 4294967296) : x * y ≤ 18446744065119617025 := by
  have := Nat.mul_le_mul (show x ≤ 4294967295 by omega) (show y ≤ 4294967295 by omega)
  omega

set_option maxHeartbeats 3200000 in
theorem addTimes_any (w : World) (g o cap ka : Nat) (P A T : List Nat) (bo : Option Addr) (cb : Nat) (B : List Nat) (x : Nat) (ho : o = P.length) (hka : ka = A.length) (hrow : RowAt w g (P ++ (A ++ T))) (hok : ok A) (hl : A.length ≤ 2000000) (hc : A.length ≤ cap) (hcm : cap ≤ 9223372036854775807)
    (hB : SlAt w bo cb B) (hne : 0 < B.length → ∀ ad, bo = some ad → ad.block ≠ g) (hBA : B.length = A.length) (hx : x < 4294967296) :
    Calls Try.prog 86 #[.slice (some ⟨g, o, none⟩) ka cap, .slice bo B.length cb, .int .u32 (x : Int)] w fun e w' => ∃ (A' : List Nat) (c : Nat), e = .returned (.int .u32 (c : Int)) ∧ RowAt w' g (P ++ (A' ++ T)) ∧ A'.length = A.length ∧ ok A' ∧ val A' + pw A.length * c = val A + x * val B ∧ c < 4294967296 ∧ w.grownBy w' (some g) := by
  subst hka
  have HO := hid ho
  have HNE := hid hne
  have HBA := hid hBA
  have hcB := hB.2.2.1
  have hlB := hB.2.1
  unfold maxLen at hcB
  have hle : B.length ≤ A.length := by omega
  have hge : A.length ≤ B.length := by omega
  clear ho hne hBA
  go_enter Try.func86, Try.ntmps86
  go_wp2
  go_loopw [7, 13] (fun s i wr => ∃ (k c : Nat) (C : List Nat), k ≤ B.length ∧ i = .int .i64 (k : Int) ∧ s = .int .u64 (c : Int) ∧ c < 4294967296 ∧ Hid (C.length = A.length) ∧ ok C ∧ Hid (C.drop k = A.drop k) ∧ Hid (val (C.take k) + pw k * c = val (A.take k) + x * val (B.take k)) ∧ RowAt wr g (P ++ (C ++ T)) ∧ w.grownBy wr (some g)) (fun s i wr => B.length - (intOf i).toNat)
  case atStart => exact ⟨0, 0, A, Nat.zero_le _, rfl, rfl, by omega, rfl, hok, rfl, by simp [val, Hid], hrow, grow_refl _ _⟩
  case round =>
    obtain ⟨k, c, C, hk, rfl, rfl, hc1, HL, hokC, HD, HV, hrw, hgw⟩ := hrel
    by_cases hlt : k < B.length
    · rcases hB.2.2.2 with ⟨_, _⟩ | ⟨b, off, rfl, hltb, hcb⟩
      · omega
      have hy : wr.cell? ⟨b, off + k, none⟩ = some (.int .u32 ((B.getD k 0 : Nat) : Int)) := (World.cell?_of_block (w := w) (a := ⟨b, off + k, none⟩) (hgw.block b hltb (by simpa using HNE.out (by omega) _ rfl))).trans (hcb k hlt)
      have hz : wr.cell? ⟨g, o + k, none⟩ = some (.int .u32 ((A.getD k 0 : Nat) : Int)) := by
        rw [hrw.cellO HO.out (by rw [HL.out]; omega), drop_getD HD.out]
      have hfz := hrw.frozen (o + k)
      have hzb := ok_getD hok k
      have hyb := ok_getD hB.1 k
      obtain ⟨z, hze⟩ : ∃ z, z = A.getD k 0 := ⟨_, rfl⟩
      obtain ⟨y, hye⟩ : ∃ y, y = B.getD k 0 := ⟨_, rfl⟩
      rw [← hze] at hz hzb
      rw [← hye] at hy hyb
      have HZ := hid hze
      have HY := hid hye
      have hm := mul_bound hx hyb
      obtain ⟨m, hme⟩ : ∃ m, m = x * y := ⟨_, rfl⟩
      rw [← hme] at hm
      have HM := hid hme
      have hmi : (x : Int) * (y : Int) = (m : Int) := by rw [hme]; simp
      clear hze hye hcb hme
      go_wp2
      go_roundw
      case rel =>
        have e1 : ((m : Int) + z + c) % 4294967296 = (((m + z + c) % 4294967296 : Nat) : Int) := by omega
        rw [e1]
        refine ⟨k + 1, (m + z + c) / 4294967296, C.set k ((m + z + c) % 4294967296), by omega, by go_num, by go_num, by omega, by rw [Hid, List.length_set]; exact HL.out, ok_set hokC _ _ (Nat.mod_lt _ (by omega)), set_drop_succ HD.out, ?_, hrw.setO HO.out (by rw [HL.out]; omega), grow_set hgw _ _⟩
        exact times_step (by rw [HL.out]; omega) (by omega) hlt HV.out (by rw [← HZ.out, ← HY.out, ← HM.out]; omega)
      case measure => simp [intOf]; omega
    · have hkB : k = B.length := by omega
      subst hkB
      have HV2 : Hid (val C + pw A.length * c = val A + x * val B) := hid (by
        have := HV.out
        rw [List.take_length, HBA.out, List.take_length, ← HL.out, List.take_length] at this
        rw [← HL.out]
        exact this)
      go_wp2
      go_ret
      exact ⟨C, c, rfl, hrw, HL.out, hokC, HV2.out, hc1, hgw⟩

theorem mul_step {P S S' : List Nat} {c x VA VB i lb : Nat} (hP : P.length = i) (hS : S.length = lb) (hS' : S'.length = lb) (hv : val (P ++ S) = VA * VB) (h : val S' + pw lb * c = val S + x * VB) : val (P ++ (S' ++ [c])) = (VA + pw i * x) * VB := by
  rw [val_append, val_append, hP, hS']
  rw [val_append, hP] at hv
  have e : val [c] = c := by simp [val]
  rw [e, h, Nat.mul_add, Nat.add_mul, ← hv, Nat.mul_assoc]
  omega

/-- The row of a product when i limbs have been done. -/
def MulRow (w : World) (g i lb la : Nat) (V : Nat) : Prop := ∃ R : List Nat, R.length = i + lb ∧ ok R ∧ val R = V ∧ RowAt w g (R ++ List.replicate (la - i) 0)

set_option maxHeartbeats 3200000 in
theorem mulLimbs_any (w : World) (ao : Option Addr) (ca : Nat) (A : List Nat) (bo : Option Addr) (cb : Nat) (B : List Nat) (ha : SlAt w ao ca A) (hb : SlAt w bo cb B) (hN : A.length ≤ 500000) (hM : B.length ≤ 500000) :
    Calls Try.prog 66 #[.slice ao A.length ca, .slice bo B.length cb] w (Made w (A.length + B.length) (val A * val B)) := by
  have hca := ha.2.2.1
  have hcb := hb.2.2.1
  unfold maxLen at hca hcb
  have hla := ha.2.1
  have hlb := hb.2.1
  obtain ⟨i0, hi, hz0, hz1, hz2⟩ := info_parts Try.info32
  go_enter Try.func66, Try.ntmps66
  go_wp2_with (at_make; go_must (refine wpList_make_full _ rfl _ _ 25 rfl w.heap.size 73 i0 (.int .u32 0) 1 Try.underlying25 hi hz0 hz1 .i64 .i64 _ _ (A.length + B.length) rfl rfl (by omega) (by omega) (by rw [hz2]; omega) (by unfold maxLen; omega) (by simp) ?_); intro w1 hown hgrow; rw [made32] at hown; obtain ⟨hrow, _⟩ := rowAt_of_own hown; have hb1 : Below w.heap.size w w1 := (Below.refl _ _).grown hgrow (Nat.le_refl _) (by simp); clear hown hgrow)
  go_loopw [16] (fun i wr => ∃ k : Nat, k ≤ A.length ∧ i = .int .i64 (k : Int) ∧ Hid (MulRow wr w.heap.size k B.length A.length (val (A.take k) * val B)) ∧ Below w.heap.size w wr) (fun i wr => A.length - (intOf i).toNat)
  case atStart =>
    refine ⟨0, Nat.zero_le _, rfl, ⟨List.replicate B.length 0, by simp, ok_replicate _, by simp [val, val_replicate], ?_⟩, hb1⟩
    have e : List.replicate B.length 0 ++ List.replicate (A.length - 0) 0 = List.replicate (A.length + B.length) 0 := by simp [Nat.add_comm]
    rw [e]; exact hrow
  case round =>
    obtain ⟨k, hk, rfl, HR, hbw⟩ := hrel
    by_cases hlt : k < A.length
    · rcases ha.2.2.2 with ⟨_, _⟩ | ⟨b, off, rfl, hltb, hcb'⟩
      · omega
      have hx := (hbw.cell (p := ⟨b, off + k, none⟩) hltb).trans (hcb' k hlt)
      have hxb := ok_getD ha.1 k
      have HT := hid (val_take_succ A k hlt)
      obtain ⟨x, hxe⟩ : ∃ x, x = A.getD k 0 := ⟨_, rfl⟩
      rw [← hxe] at hx hxb HT
      clear hxe hcb'
      go_wp2_with fail
      obtain ⟨R, hRl, hRok, hRv, hRr⟩ := HR.out
      have hP : (R.take k).length = k := by simp; omega
      have hS : (R.drop k).length = B.length := by simp; omega
      have hRr2 : RowAt wr w.heap.size (R.take k ++ (R.drop k ++ List.replicate (A.length - k) 0)) := by rw [← List.append_assoc, List.take_append_drop]; exact hRr
      refine (addTimes_any wr w.heap.size k (A.length + B.length - k) B.length (R.take k) (R.drop k) (List.replicate (A.length - k) 0) bo cb B x hP.symm hS.symm hRr2 (ok_drop hRok k) (by omega) (by omega) (by omega) (hb.below hbw) (slAt_ne_aux hb) hS.symm hxb).mono ?_
      rintro e w2 ⟨S', c, rfl, hr2, hl2, hok2, hv2, hc2, hg2⟩
      have hz : w2.cell? ⟨w.heap.size, k + B.length, none⟩ = some (.int .u32 ((0 : Nat) : Int)) := by
        rw [hr2.cell (k + B.length) (by simp; omega)]
        have e2 : (R.take k ++ (S' ++ List.replicate (A.length - k) 0)).getD (k + B.length) 0 = 0 := by
          rw [List.getD_eq_getElem?_getD, List.getElem?_append_right (by omega), hP, List.getElem?_append_right (by omega), List.getElem?_replicate]
          rw [if_pos (by omega)]; rfl
        rw [e2]
      have hfz := hr2.frozen (k + B.length)
      have HN : Hid (MulRow (w2.setCell ⟨w.heap.size, k + B.length, none⟩ (.int .u32 (c : Int))) w.heap.size (k + 1) B.length A.length (val (A.take (k + 1)) * val B)) := by
        refine ⟨R.take k ++ (S' ++ [c]), by simp; omega, ok_append.2 ⟨ok_take hRok k, ok_append.2 ⟨hok2, by rw [ok_cons]; exact ⟨hc2, ok_nil⟩⟩⟩, ?_, ?_⟩
        · rw [HT.out]
          exact mul_step (S := R.drop k) hP hS (by omega) (by rw [List.take_append_drop]; exact hRv) (by rw [hS] at hv2; exact hv2)
        · have h3 := hr2.set (k + B.length) c
          rw [List.set_append_right _ _ (by omega), hP, List.set_append_right _ _ (by omega)] at h3
          have e3 : (List.replicate (A.length - k) 0).set (k + B.length - k - S'.length) c = c :: List.replicate (A.length - (k + 1)) 0 := by
            rw [show k + B.length - k - S'.length = 0 by omega, show A.length - k = (A.length - (k + 1)) + 1 by omega, List.replicate_succ]
            rfl
          rw [e3] at h3
          have e4 : R.take k ++ (S' ++ [c]) ++ List.replicate (A.length - (k + 1)) 0 = R.take k ++ (S' ++ c :: List.replicate (A.length - (k + 1)) 0) := by simp
          rw [e4]
          exact h3
      have hb2 : Below w.heap.size w w2 := hbw.grown hg2 hbw.size (by intro q e; simp at e; omega)
      clear hr2 hl2 hok2 hv2 hg2 hRl hRok hRv hRr hP hS hRr2 HR
      go_wp2
      go_roundw
      case rel => exact ⟨k + 1, by omega, by go_num, HN, hb2.setCell (by simp) _⟩
      case measure => simp [intOf]; omega
    · have hkA : k = A.length := by omega
      subst hkA
      obtain ⟨R, hRl, hRok, hRv, hRr⟩ := HR.out
      have HF : Hid (Made w (A.length + B.length) (val A * val B) (.returned (.slice (some ⟨w.heap.size, 0, none⟩) (A.length + B.length) (A.length + B.length))) wr) := by
        rw [Nat.sub_self, List.replicate_zero, List.append_nil] at hRr
        rw [List.take_length] at hRv
        exact ⟨w.heap.size, A.length + B.length, A.length + B.length, R, rfl, hRl.symm, by rw [← hRl]; exact hRr.whole hRok (by omega), Nat.le_refl _, by omega, hRv, hbw⟩
      clear hRl hRok hRv hRr HR
      go_wp2
      go_ret
      exact HF.out

end Go.Proofs.Ytalblhcfkfockaa
