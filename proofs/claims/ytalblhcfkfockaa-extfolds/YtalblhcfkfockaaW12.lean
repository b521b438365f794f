/-
  Walks: limbs added to limbs and taken off limbs, in place.
-/
import Derived.Test.YtalblhcfkfockaaW11
namespace Go.Proofs.Ytalblhcfkfockaa
open Go.RowKit Lm
set_option linter.unusedSimpArgs false
set_option linter.unusedVariables false
set_option maxRecDepth 100000

theorem pw_succ_mul (k c : Nat) : pw (k + 1) * c = pw k * (4294967296 * c) := by
  simp only [pw]; rw [Nat.mul_comm 4294967296 (pw k), Nat.mul_assoc]
theorem take_set_succ {C : List Nat} {k s : Nat} (hk : k < C.length) : val ((C.set k s).take (k + 1)) = val (C.take k) + pw k * s := by
  rw [val_take_succ _ k (by simpa using hk), set_take (Nat.le_refl _)]
  simp [List.getD_eq_getElem?_getD, hk]
theorem set_drop_succ {C A : List Nat} {k s : Nat} (h : C.drop k = A.drop k) : (C.set k s).drop (k + 1) = A.drop (k + 1) := by
  have e : C.drop (k + 1) = A.drop (k + 1) := by
    have := congrArg (List.drop 1) h
    simpa [List.drop_drop] using this
  rw [← e]
  apply List.ext_getElem?
  intro j
  simp only [List.getElem?_drop, List.getElem?_set]
  rw [if_neg (by omega)]
theorem drop_getD {C A : List Nat} {k : Nat} (h : C.drop k = A.drop k) : C.getD k 0 = A.getD k 0 := by
  have := congrArg (fun l => l.getD 0 0) h
  simpa [List.getD_eq_getElem?_getD] using this
theorem add_step {A B C : List Nat} {k c s c' : Nat} (hkC : k < C.length) (hkA : k < A.length) (hkB : k < B.length) (hv : val (C.take k) + pw k * c = val (A.take k) + val (B.take k)) (hs : s + 4294967296 * c' = A.getD k 0 + B.getD k 0 + c) :
    val ((C.set k s).take (k + 1)) + pw (k + 1) * c' = val (A.take (k + 1)) + val (B.take (k + 1)) := by
  rw [take_set_succ hkC, val_take_succ A k hkA, val_take_succ B k hkB, pw_succ_mul]
  have h1 := congrArg (pw k * ·) hs
  simp only [Nat.mul_add] at h1
  omega
theorem add_step0 {A C : List Nat} {k c s c' V : Nat} (hkC : k < C.length) (hkA : k < A.length) (hv : val (C.take k) + pw k * c = val (A.take k) + V) (hs : s + 4294967296 * c' = A.getD k 0 + 0 + c) :
    val ((C.set k s).take (k + 1)) + pw (k + 1) * c' = val (A.take (k + 1)) + V := by
  rw [take_set_succ hkC, val_take_succ A k hkA, pw_succ_mul]
  have h1 := congrArg (pw k * ·) hs
  simp only [Nat.mul_add] at h1
  omega
theorem sub_step {A B C : List Nat} {k c s c' : Nat} (hkC : k < C.length) (hkA : k < A.length) (hkB : k < B.length) (hv : val (A.take k) + pw k * c = val (C.take k) + val (B.take k)) (hs : A.getD k 0 + 4294967296 * c' = s + B.getD k 0 + c) :
    val (A.take (k + 1)) + pw (k + 1) * c' = val ((C.set k s).take (k + 1)) + val (B.take (k + 1)) := by
  rw [take_set_succ hkC, val_take_succ A k hkA, val_take_succ B k hkB, pw_succ_mul]
  have h1 := congrArg (pw k * ·) hs
  simp only [Nat.mul_add] at h1
  omega
theorem sub_step0 {A C : List Nat} {k c s c' V : Nat} (hkC : k < C.length) (hkA : k < A.length) (hv : val (A.take k) + pw k * c = val (C.take k) + V) (hs : A.getD k 0 + 4294967296 * c' = s + 0 + c) :
    val (A.take (k + 1)) + pw (k + 1) * c' = val ((C.set k s).take (k + 1)) + V := by
  rw [take_set_succ hkC, val_take_succ A k hkA, pw_succ_mul]
  have h1 := congrArg (pw k * ·) hs
  simp only [Nat.mul_add] at h1
  omega
/-- Where the carry is nought what stands above stays. -/
theorem end_zero {A C : List Nat} {k : Nat} (hl : C.length = A.length) (hk : k ≤ A.length) (hd : C.drop k = A.drop k) {X Y : Nat} (h : val (C.take k) + X = val (A.take k) + Y) : val C + X = val A + Y := by
  have h1 : val C = val (C.take k) + pw k * val (C.drop k) := by
    conv => lhs; rw [← List.take_append_drop k C, val_append]
    rw [show (C.take k).length = k by simp; omega]
  have h2 : val A = val (A.take k) + pw k * val (A.drop k) := by
    conv => lhs; rw [← List.take_append_drop k A, val_append]
    rw [show (A.take k).length = k by simp; omega]
  rw [h1, h2, hd]
  omega

set_option maxHeartbeats 3200000 in
theorem addInto_any (w : World) (g o cap : Nat) (P A T : List Nat) (bo : Option Addr) (cb : Nat) (B : List Nat) (ho : o = P.length) (hrow : RowAt w g (P ++ (A ++ T))) (hok : ok A) (hl : A.length ≤ 2000000) (hc : A.length ≤ cap) (hcm : cap ≤ 9223372036854775807)
    (hB : SlAt w bo cb B) (hne : 0 < B.length → ∀ ad, bo = some ad → ad.block ≠ g) (hBA : B.length ≤ A.length) :
    Calls Try.prog 116 #[.slice (some ⟨g, o, none⟩) A.length cap, .slice bo B.length cb] w fun e w' => ∃ (A' : List Nat) (c : Nat), e = .returned (.int .u32 (c : Int)) ∧ RowAt w' g (P ++ (A' ++ T)) ∧ A'.length = A.length ∧ ok A' ∧ val A' + pw A.length * c = val A + val B ∧ c ≤ 1 ∧ w.grownBy w' (some g) := by
  have HO := hid ho
  have HNE := hid hne
  have hcB := hB.2.2.1
  have hlB := hB.2.1
  unfold maxLen at hcB
  clear ho hne
  go_enter Try.func116, Try.ntmps116
  go_wp2
  go_loopw [5, 11] (fun s i wr => ∃ (k c : Nat) (C : List Nat), k ≤ B.length ∧ i = .int .i64 (k : Int) ∧ s = .int .u32 (c : Int) ∧ c ≤ 1 ∧ Hid (C.length = A.length) ∧ ok C ∧ Hid (C.drop k = A.drop k) ∧ Hid (val (C.take k) + pw k * c = val (A.take k) + val (B.take k)) ∧ RowAt wr g (P ++ (C ++ T)) ∧ w.grownBy wr (some g)) (fun s i wr => B.length - (intOf i).toNat)
  case atStart => exact ⟨0, 0, A, Nat.zero_le _, rfl, rfl, by omega, rfl, hok, rfl, by simp [val, Hid], hrow, grow_refl _ _⟩
  case round =>
    obtain ⟨k, c, C, hk, rfl, rfl, hc1, HL, hokC, HD, HV, hrw, hgw⟩ := hrel
    by_cases hlt : k < B.length
    · rcases hB.2.2.2 with ⟨_, _⟩ | ⟨b, off, rfl, hltb, hcb⟩
      · omega
      have hy : wr.cell? ⟨b, off + k, none⟩ = some (.int .u32 ((B.getD k 0 : Nat) : Int)) := (World.cell?_of_block (w := w) (a := ⟨b, off + k, none⟩) (hgw.block b hltb (by simpa using HNE.out (by omega) _ rfl))).trans (hcb k hlt)
      have hx : wr.cell? ⟨g, o + k, none⟩ = some (.int .u32 ((A.getD k 0 : Nat) : Int)) := by
        rw [hrw.cellO HO.out (by rw [HL.out]; omega), drop_getD HD.out]
      have hfz := hrw.frozen (o + k)
      have hxb := ok_getD hok k
      have hyb := ok_getD hB.1 k
      obtain ⟨x, hxe⟩ : ∃ x, x = A.getD k 0 := ⟨_, rfl⟩
      obtain ⟨y, hye⟩ : ∃ y, y = B.getD k 0 := ⟨_, rfl⟩
      rw [← hxe] at hx hxb
      rw [← hye] at hy hyb
      have HX := hid hxe
      have HY := hid hye
      clear hxe hye hcb
      go_wp2_with fail
      refine (addWords_any _ x y c hxb hyb hc1 _ rfl).mono ?_
      rintro e w1 ⟨s, c', rfl, rfl, HS, hs, hc'⟩
      go_wp2
      go_roundw
      case rel =>
        refine ⟨k + 1, c', C.set k s, by omega, by go_num, rfl, hc', by rw [Hid, List.length_set]; exact HL.out, ok_set hokC _ _ hs, set_drop_succ HD.out, ?_, hrw.setO HO.out (by rw [HL.out]; omega), grow_set hgw _ _⟩
        exact add_step (by rw [HL.out]; omega) (by omega) hlt HV.out (by rw [← HX.out, ← HY.out]; exact HS.out)
      case measure => simp [intOf]; omega
    · have hkB : k = B.length := by omega
      subst hkB
      have HV2 : Hid (val (C.take B.length) + pw B.length * c = val (A.take B.length) + val B) := hid (by have := HV.out; rwa [List.take_length] at this)
      clear HV
      go_wp2
      go_loopw [5, 8] (fun s i wr => ∃ (k c : Nat) (C : List Nat), B.length ≤ k ∧ k ≤ A.length ∧ i = .int .i64 (k : Int) ∧ s = .int .u32 (c : Int) ∧ c ≤ 1 ∧ Hid (C.length = A.length) ∧ ok C ∧ Hid (C.drop k = A.drop k) ∧ Hid (val (C.take k) + pw k * c = val (A.take k) + val B) ∧ RowAt wr g (P ++ (C ++ T)) ∧ w.grownBy wr (some g)) (fun s i wr => A.length - (intOf i).toNat)
      case atStart => exact ⟨B.length, c, C, Nat.le_refl _, hBA, rfl, rfl, hc1, HL, hokC, HD, HV2, hrw, hgw⟩
      case round =>
        clear HL HD HV2 hrw hgw hokC hc1
        obtain ⟨k, c, C, hkb, hk, rfl, rfl, hc1, HL, hokC, HD, HV, hrw, hgw⟩ := hrel
        by_cases hlt2 : k < A.length
        · by_cases hc0 : c = 0
          · subst hc0
            go_wp2
            go_ret
            exact ⟨C, 0, rfl, hrw, HL.out, hokC, by have := end_zero HL.out (by omega) HD.out HV.out; simpa using this, by omega, hgw⟩
          · have hcc : (0 : Int) < (c : Int) := by omega
            have hx : wr.cell? ⟨g, o + k, none⟩ = some (.int .u32 ((A.getD k 0 : Nat) : Int)) := by
              rw [hrw.cellO HO.out (by rw [HL.out]; omega), drop_getD HD.out]
            have hfz := hrw.frozen (o + k)
            have hxb := ok_getD hok k
            obtain ⟨x, hxe⟩ : ∃ x, x = A.getD k 0 := ⟨_, rfl⟩
            rw [← hxe] at hx hxb
            have HX := hid hxe
            clear hxe
            go_wp2_with fail
            refine (addWords_any _ x 0 c hxb (by omega) hc1 0 rfl).mono ?_
            rintro e w1 ⟨s, c', rfl, rfl, HS, hs, hc'⟩
            go_wp2
            go_roundw
            case rel =>
              refine ⟨k + 1, c', C.set k s, by omega, by omega, by go_num, rfl, hc', by rw [Hid, List.length_set]; exact HL.out, ok_set hokC _ _ hs, set_drop_succ HD.out, ?_, hrw.setO HO.out (by rw [HL.out]; omega), grow_set hgw _ _⟩
              exact add_step0 (by rw [HL.out]; omega) hlt2 HV.out (by rw [← HX.out]; exact HS.out)
            case measure => simp [intOf]; omega
        · have hkA : k = A.length := by omega
          subst hkA
          have HV3 : Hid (val C + pw A.length * c = val A + val B) := hid (by have := HV.out; rw [List.take_length, ← HL.out, List.take_length] at this; rw [← HL.out]; exact this)
          go_wp2
          go_ret
          exact ⟨C, c, rfl, hrw, HL.out, hokC, HV3.out, hc1, hgw⟩

set_option maxHeartbeats 3200000 in
theorem subFrom_any (w : World) (g o cap : Nat) (P A T : List Nat) (bo : Option Addr) (cb : Nat) (B : List Nat) (ho : o = P.length) (hrow : RowAt w g (P ++ (A ++ T))) (hok : ok A) (hl : A.length ≤ 2000000) (hc : A.length ≤ cap) (hcm : cap ≤ 9223372036854775807)
    (hB : SlAt w bo cb B) (hne : 0 < B.length → ∀ ad, bo = some ad → ad.block ≠ g) (hBA : B.length ≤ A.length) :
    Calls Try.prog 118 #[.slice (some ⟨g, o, none⟩) A.length cap, .slice bo B.length cb] w fun e w' => ∃ (A' : List Nat) (c : Nat), e = .returned (.int .u32 (c : Int)) ∧ RowAt w' g (P ++ (A' ++ T)) ∧ A'.length = A.length ∧ ok A' ∧ val A + pw A.length * c = val A' + val B ∧ c ≤ 1 ∧ w.grownBy w' (some g) := by
  have HO := hid ho
  have HNE := hid hne
  have hcB := hB.2.2.1
  have hlB := hB.2.1
  unfold maxLen at hcB
  clear ho hne
  go_enter Try.func118, Try.ntmps118
  go_wp2
  go_loopw [5, 11] (fun s i wr => ∃ (k c : Nat) (C : List Nat), k ≤ B.length ∧ i = .int .i64 (k : Int) ∧ s = .int .u32 (c : Int) ∧ c ≤ 1 ∧ Hid (C.length = A.length) ∧ ok C ∧ Hid (C.drop k = A.drop k) ∧ Hid (val (A.take k) + pw k * c = val (C.take k) + val (B.take k)) ∧ RowAt wr g (P ++ (C ++ T)) ∧ w.grownBy wr (some g)) (fun s i wr => B.length - (intOf i).toNat)
  case atStart => exact ⟨0, 0, A, Nat.zero_le _, rfl, rfl, by omega, rfl, hok, rfl, by simp [val, Hid], hrow, grow_refl _ _⟩
  case round =>
    obtain ⟨k, c, C, hk, rfl, rfl, hc1, HL, hokC, HD, HV, hrw, hgw⟩ := hrel
    by_cases hlt : k < B.length
    · rcases hB.2.2.2 with ⟨_, _⟩ | ⟨b, off, rfl, hltb, hcb⟩
      · omega
      have hy : wr.cell? ⟨b, off + k, none⟩ = some (.int .u32 ((B.getD k 0 : Nat) : Int)) := (World.cell?_of_block (w := w) (a := ⟨b, off + k, none⟩) (hgw.block b hltb (by simpa using HNE.out (by omega) _ rfl))).trans (hcb k hlt)
      have hx : wr.cell? ⟨g, o + k, none⟩ = some (.int .u32 ((A.getD k 0 : Nat) : Int)) := by
        rw [hrw.cellO HO.out (by rw [HL.out]; omega), drop_getD HD.out]
      have hfz := hrw.frozen (o + k)
      have hxb := ok_getD hok k
      have hyb := ok_getD hB.1 k
      obtain ⟨x, hxe⟩ : ∃ x, x = A.getD k 0 := ⟨_, rfl⟩
      obtain ⟨y, hye⟩ : ∃ y, y = B.getD k 0 := ⟨_, rfl⟩
      rw [← hxe] at hx hxb
      rw [← hye] at hy hyb
      have HX := hid hxe
      have HY := hid hye
      clear hxe hye hcb
      go_wp2_with fail
      refine (subWords_any _ x y c hxb hyb hc1 _ rfl).mono ?_
      rintro e w1 ⟨s, c', rfl, rfl, HS, hs, hc'⟩
      go_wp2
      go_roundw
      case rel =>
        refine ⟨k + 1, c', C.set k s, by omega, by go_num, rfl, hc', by rw [Hid, List.length_set]; exact HL.out, ok_set hokC _ _ hs, set_drop_succ HD.out, ?_, hrw.setO HO.out (by rw [HL.out]; omega), grow_set hgw _ _⟩
        exact sub_step (by rw [HL.out]; omega) (by omega) hlt HV.out (by rw [← HX.out, ← HY.out]; exact HS.out)
      case measure => simp [intOf]; omega
    · have hkB : k = B.length := by omega
      subst hkB
      have HV2 : Hid (val (A.take B.length) + pw B.length * c = val (C.take B.length) + val B) := hid (by have := HV.out; rwa [List.take_length] at this)
      clear HV
      go_wp2
      go_loopw [5, 8] (fun s i wr => ∃ (k c : Nat) (C : List Nat), B.length ≤ k ∧ k ≤ A.length ∧ i = .int .i64 (k : Int) ∧ s = .int .u32 (c : Int) ∧ c ≤ 1 ∧ Hid (C.length = A.length) ∧ ok C ∧ Hid (C.drop k = A.drop k) ∧ Hid (val (A.take k) + pw k * c = val (C.take k) + val B) ∧ RowAt wr g (P ++ (C ++ T)) ∧ w.grownBy wr (some g)) (fun s i wr => A.length - (intOf i).toNat)
      case atStart => exact ⟨B.length, c, C, Nat.le_refl _, hBA, rfl, rfl, hc1, HL, hokC, HD, HV2, hrw, hgw⟩
      case round =>
        clear HL HD HV2 hrw hgw hokC hc1
        obtain ⟨k, c, C, hkb, hk, rfl, rfl, hc1, HL, hokC, HD, HV, hrw, hgw⟩ := hrel
        by_cases hlt2 : k < A.length
        · by_cases hc0 : c = 0
          · subst hc0
            go_wp2
            go_ret
            exact ⟨C, 0, rfl, hrw, HL.out, hokC, by have := end_zero HL.out.symm (by rw [HL.out]; omega) HD.out.symm HV.out; simpa using this, by omega, hgw⟩
          · have hcc : (0 : Int) < (c : Int) := by omega
            have hx : wr.cell? ⟨g, o + k, none⟩ = some (.int .u32 ((A.getD k 0 : Nat) : Int)) := by
              rw [hrw.cellO HO.out (by rw [HL.out]; omega), drop_getD HD.out]
            have hfz := hrw.frozen (o + k)
            have hxb := ok_getD hok k
            obtain ⟨x, hxe⟩ : ∃ x, x = A.getD k 0 := ⟨_, rfl⟩
            rw [← hxe] at hx hxb
            have HX := hid hxe
            clear hxe
            go_wp2_with fail
            refine (subWords_any _ x 0 c hxb (by omega) hc1 0 rfl).mono ?_
            rintro e w1 ⟨s, c', rfl, rfl, HS, hs, hc'⟩
            go_wp2
            go_roundw
            case rel =>
              refine ⟨k + 1, c', C.set k s, by omega, by omega, by go_num, rfl, hc', by rw [Hid, List.length_set]; exact HL.out, ok_set hokC _ _ hs, set_drop_succ HD.out, ?_, hrw.setO HO.out (by rw [HL.out]; omega), grow_set hgw _ _⟩
              exact sub_step0 (by rw [HL.out]; omega) hlt2 HV.out (by rw [← HX.out]; exact HS.out)
            case measure => simp [intOf]; omega
        · have hkA : k = A.length := by omega
          subst hkA
          have HV3 : Hid (val A + pw A.length * c = val C + val B) := hid (by have := HV.out; rw [List.take_length, ← HL.out, List.take_length] at this; rw [← HL.out]; exact this)
          go_wp2
          go_ret
          exact ⟨C, c, rfl, hrw, HL.out, hokC, HV3.out, hc1, hgw⟩

end Go.Proofs.Ytalblhcfkfockaa
