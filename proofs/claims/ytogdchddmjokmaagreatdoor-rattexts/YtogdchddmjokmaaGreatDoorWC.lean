/-
  Walks: sums of limbs.
  Walks: limbs added to limbs and taken off limbs, in place.
  Walks: sums, differences, order of limbs.
  Walks: the order of limbs; sums of two signs.
  Walks: products of limbs.
  Walks: sums of two signs; Add, Sub, Mul, Neg, Cmp.
-/
import Derived.Test.YtogdchddmjokmaaGreatDoorWB

namespace Go.Proofs.YtogdchddmjokmaaGreatDoor
open Go.RowKit Lm
set_option linter.unusedSimpArgs false
set_option linter.unusedVariables false
set_option maxRecDepth 100000

theorem RowAt.cellO {w : World} {g o k : Nat} {P C T : List Nat} (h : RowAt w g (P ++ (C ++ T))) (ho : o = P.length) (hk : k < C.length) : w.cell? ⟨g, o + k, none⟩ = some (.int .u32 ((C.getD k 0 : Nat) : Int)) := by
  subst ho
  rw [h.cell (P.length + k) (by simp; omega)]
  have e : (P ++ (C ++ T))[P.length + k]? = C[k]? := by
    rw [List.getElem?_append_right (by omega), show P.length + k - P.length = k by omega, List.getElem?_append_left hk]
  rw [List.getD_eq_getElem?_getD, e, List.getD_eq_getElem?_getD]
theorem RowAt.setO {w : World} {g o k x : Nat} {P C T : List Nat} (h : RowAt w g (P ++ (C ++ T))) (ho : o = P.length) (hk : k < C.length) : RowAt (w.setCell ⟨g, o + k, none⟩ (.int .u32 (x : Int))) g (P ++ (C.set k x ++ T)) := by
  subst ho
  have := h.set (P.length + k) x
  rw [List.set_append_right _ _ (by omega), show P.length + k - P.length = k by omega, List.set_append_left _ _ hk] at this
  exact this

theorem wrap_add (x y : Int) : IntKind.u32.wrap (x + y) = (x + y) % 4294967296 := IntKind.wrap_u32 _

theorem ret_uu {a b c d : Int} (h : a = c) (k : b = d) : Ending.returned (.tuple #[.int .u32 a, .int .u32 b]) = .returned (.tuple #[.int .u32 c, .int .u32 d]) := by rw [h, k]

set_option maxHeartbeats 800000 in
theorem addWords_any (w : World) (x y c : Nat) (hx : x < 4294967296) (hy : y < 4294967296) (hc : c ≤ 1) (yi : Int) (hyi : yi = (y : Int)) :
    Calls Tryz.prog 105 #[.int .u32 (x : Int), .int .u32 yi, .int .u32 (c : Int)] w fun e w' => ∃ s c' : Nat, e = .returned (.tuple #[.int .u32 (s : Int), .int .u32 (c' : Int)]) ∧ w' = w ∧ Hid (s + 4294967296 * c' = x + y + c) ∧ s < 4294967296 ∧ c' ≤ 1 := by
  subst hyi
  go_enter Tryz.func105, Tryz.ntmps105
  go_wp2
  · go_ret2
    refine ⟨(x + y + c) % 4294967296, 1, ?_, rfl, ?_, Nat.mod_lt _ (by omega), by omega⟩
    · exact ret_uu (by omega) (by omega)
    · show _ = _
      omega
  · go_ret2
    refine ⟨(x + y + c) % 4294967296, 0, ?_, rfl, ?_, Nat.mod_lt _ (by omega), by omega⟩
    · exact ret_uu (by omega) (by omega)
    · show _ = _
      omega
  · go_ret2
    refine ⟨(x + y + c) % 4294967296, 1, ?_, rfl, ?_, Nat.mod_lt _ (by omega), by omega⟩
    · exact ret_uu (by omega) (by omega)
    · show _ = _
      omega

set_option maxHeartbeats 800000 in
theorem subWords_any (w : World) (x y c : Nat) (hx : x < 4294967296) (hy : y < 4294967296) (hc : c ≤ 1) (yi : Int) (hyi : yi = (y : Int)) :
    Calls Tryz.prog 106 #[.int .u32 (x : Int), .int .u32 yi, .int .u32 (c : Int)] w fun e w' => ∃ s c' : Nat, e = .returned (.tuple #[.int .u32 (s : Int), .int .u32 (c' : Int)]) ∧ w' = w ∧ Hid (x + 4294967296 * c' = s + y + c) ∧ s < 4294967296 ∧ c' ≤ 1 := by
  subst hyi
  go_enter Tryz.func106, Tryz.ntmps106
  go_wp2
  · go_ret2
    refine ⟨(x + 8589934592 - y - c) % 4294967296, 1, ?_, rfl, ?_, Nat.mod_lt _ (by omega), by omega⟩
    · exact ret_uu (by omega) (by omega)
    · show _ = _
      omega
  · go_ret2
    refine ⟨(x + 8589934592 - y - c) % 4294967296, 0, ?_, rfl, ?_, Nat.mod_lt _ (by omega), by omega⟩
    · exact ret_uu (by omega) (by omega)
    · show _ = _
      omega
  · go_ret2
    refine ⟨(x + 8589934592 - y - c) % 4294967296, 1, ?_, rfl, ?_, Nat.mod_lt _ (by omega), by omega⟩
    · exact ret_uu (by omega) (by omega)
    · show _ = _
      omega

theorem nan32 (w : World) (x : Int) : Calls Tryz.prog 103 #[.int .u32 x] w fun e w' => e = .returned (.bool false) ∧ w' = w := by
  go_enter Tryz.func103, Tryz.ntmps103
  go_wp2
  go_ret
  exact ⟨ret_bool (by simp), rfl⟩
theorem nanInt (w : World) (x : Int) : Calls Tryz.prog 102 #[.int .i64 x] w fun e w' => e = .returned (.bool false) ∧ w' = w := by
  go_enter Tryz.func102, Tryz.ntmps102
  go_wp2
  go_ret
  exact ⟨ret_bool (by simp), rfl⟩

/-- -1, 0, 1: below, just, above. -/
def cmpI (x y : Int) : Int := if x < y then -1 else if y < x then 1 else 0

theorem compare32 (w : World) (x y : Int) : Calls Tryz.prog 84 #[.int .u32 x, .int .u32 y] w fun e w' => e = .returned (.int .i64 (cmpI x y)) ∧ w' = w := by
  go_enter Tryz.func84, Tryz.ntmps84
  go_wp2_with (go_at_call 103; refine (nan32 _ _).mono ?_; rintro e w' ⟨rfl, rfl⟩)
  all_goals
    go_ret
    exact ⟨ret_int (by unfold cmpI; first | (rw [if_pos (by omega)]) | (rw [if_neg (by omega), if_pos (by omega)]) | (rw [if_neg (by omega), if_neg (by omega)])), rfl⟩
theorem compareInt (w : World) (x y : Int) : Calls Tryz.prog 83 #[.int .i64 x, .int .i64 y] w fun e w' => e = .returned (.int .i64 (cmpI x y)) ∧ w' = w := by
  go_enter Tryz.func83, Tryz.ntmps83
  go_wp2_with (go_at_call 102; refine (nanInt _ _).mono ?_; rintro e w' ⟨rfl, rfl⟩)
  all_goals
    go_ret
    exact ⟨ret_int (by unfold cmpI; first | (rw [if_pos (by omega)]) | (rw [if_neg (by omega), if_pos (by omega)]) | (rw [if_neg (by omega), if_neg (by omega)])), rfl⟩

end Go.Proofs.YtogdchddmjokmaaGreatDoor

namespace Go.Proofs.YtogdchddmjokmaaGreatDoor
open Go.RowKit Lm
set_option linter.unusedSimpArgs false
set_option linter.unusedVariables false
set_option maxRecDepth 100000

theorem pw_succ_mul (k c : Nat) : pw (k + 1) * c = pw k * (4294967296 * c) := by
  simp only [pw]; rw [Nat.mul_comm 4294967296 (pw k), Nat.mul_assoc]
theorem take_set_succ {C : List Nat} {k s : Nat} (hk : k < C.length) : val ((C.set k s).take (k + 1)) = val (C.take k) + pw k * s := by
  rw [val_take_succ _ k (by simpa using hk), set_take (Nat.le_refl _)]
  simp [List.getD_eq_getElem?_getD, hk]
theorem set_drop_succ {C A : List Nat} {k s : Nat} (h : C.drop k = A.drop k) : (C.set k s).drop (k + 1) = A.drop (k + 1) := by
  have e : C.drop (k + 1) = A.drop (k + 1) := by
    have := congrArg (List.drop 1) h
    simpa [List.drop_drop] using this
  rw [← e]
  apply List.ext_getElem?
  intro j
  simp only [List.getElem?_drop, List.getElem?_set]
  rw [if_neg (by omega)]
theorem drop_getD {C A : List Nat} {k : Nat} (h : C.drop k = A.drop k) : C.getD k 0 = A.getD k 0 := by
  have := congrArg (fun l => l.getD 0 0) h
  simpa [List.getD_eq_getElem?_getD] using this
theorem add_step {A B C : List Nat} {k c s c' : Nat} (hkC : k < C.length) (hkA : k < A.length) (hkB : k < B.length) (hv : val (C.take k) + pw k * c = val (A.take k) + val (B.take k)) (hs : s + 4294967296 * c' = A.getD k 0 + B.getD k 0 + c) :
    val ((C.set k s).take (k + 1)) + pw (k + 1) * c' = val (A.take (k + 1)) + val (B.take (k + 1)) := by
  rw [take_set_succ hkC, val_take_succ A k hkA, val_take_succ B k hkB, pw_succ_mul]
  have h1 := congrArg (pw k * ·) hs
  simp only [Nat.mul_add] at h1
  omega
theorem add_step0 {A C : List Nat} {k c s c' V : Nat} (hkC : k < C.length) (hkA : k < A.length) (hv : val (C.take k) + pw k * c = val (A.take k) + V) (hs : s + 4294967296 * c' = A.getD k 0 + 0 + c) :
    val ((C.set k s).take (k + 1)) + pw (k + 1) * c' = val (A.take (k + 1)) + V := by
  rw [take_set_succ hkC, val_take_succ A k hkA, pw_succ_mul]
  have h1 := congrArg (pw k * ·) hs
  simp only [Nat.mul_add] at h1
  omega
theorem sub_step {A B C : List Nat} {k c s c' : Nat} (hkC : k < C.length) (hkA : k < A.length) (hkB : k < B.length) (hv : val (A.take k) + pw k * c = val (C.take k) + val (B.take k)) (hs : A.getD k 0 + 4294967296 * c' = s + B.getD k 0 + c) :
    val (A.take (k + 1)) + pw (k + 1) * c' = val ((C.set k s).take (k + 1)) + val (B.take (k + 1)) := by
  rw [take_set_succ hkC, val_take_succ A k hkA, val_take_succ B k hkB, pw_succ_mul]
  have h1 := congrArg (pw k * ·) hs
  simp only [Nat.mul_add] at h1
  omega
theorem sub_step0 {A C : List Nat} {k c s c' V : Nat} (hkC : k < C.length) (hkA : k < A.length) (hv : val (A.take k) + pw k * c = val (C.take k) + V) (hs : A.getD k 0 + 4294967296 * c' = s + 0 + c) :
    val (A.take (k + 1)) + pw (k + 1) * c' = val ((C.set k s).take (k + 1)) + V := by
  rw [take_set_succ hkC, val_take_succ A k hkA, pw_succ_mul]
  have h1 := congrArg (pw k * ·) hs
  simp only [Nat.mul_add] at h1
  omega
/-- Where the carry is nought what stands above stays. -/
theorem end_zero {A C : List Nat} {k : Nat} (hl : C.length = A.length) (hk : k ≤ A.length) (hd : C.drop k = A.drop k) {X Y : Nat} (h : val (C.take k) + X = val (A.take k) + Y) : val C + X = val A + Y := by
  have h1 : val C = val (C.take k) + pw k * val (C.drop k) := by
    conv => lhs; rw [← List.take_append_drop k C, val_append]
    rw [show (C.take k).length = k by simp; omega]
  have h2 : val A = val (A.take k) + pw k * val (A.drop k) := by
    conv => lhs; rw [← List.take_append_drop k A, val_append]
    rw [show (A.take k).length = k by simp; omega]
  rw [h1, h2, hd]
  omega

set_option maxHeartbeats 3200000 in
theorem addInto_any (w : World) (g o cap : Nat) (P A T : List Nat) (bo : Option Addr) (cb : Nat) (B : List Nat) (ho : o = P.length) (hrow : RowAt w g (P ++ (A ++ T))) (hok : ok A) (hl : A.length ≤ 2000000) (hc : A.length ≤ cap) (hcm : cap ≤ 9223372036854775807)
    (hB : SlAt w bo cb B) (hne : 0 < B.length → ∀ ad, bo = some ad → ad.block ≠ g) (hBA : B.length ≤ A.length) :
    Calls Tryz.prog 91 #[.slice (some ⟨g, o, none⟩) A.length cap, .slice bo B.length cb] w fun e w' => ∃ (A' : List Nat) (c : Nat), e = .returned (.int .u32 (c : Int)) ∧ RowAt w' g (P ++ (A' ++ T)) ∧ A'.length = A.length ∧ ok A' ∧ val A' + pw A.length * c = val A + val B ∧ c ≤ 1 ∧ w.grownBy w' (some g) := by
  have HO := hid ho
  have HNE := hid hne
  have hcB := hB.2.2.1
  have hlB := hB.2.1
  unfold maxLen at hcB
  clear ho hne
  go_enter Tryz.func91, Tryz.ntmps91
  go_wp2
  go_loopw [5, 11] (fun s i wr => ∃ (k c : Nat) (C : List Nat), k ≤ B.length ∧ i = .int .i64 (k : Int) ∧ s = .int .u32 (c : Int) ∧ c ≤ 1 ∧ Hid (C.length = A.length) ∧ ok C ∧ Hid (C.drop k = A.drop k) ∧ Hid (val (C.take k) + pw k * c = val (A.take k) + val (B.take k)) ∧ RowAt wr g (P ++ (C ++ T)) ∧ w.grownBy wr (some g)) (fun s i wr => B.length - (intOf i).toNat)
  case atStart => exact ⟨0, 0, A, Nat.zero_le _, rfl, rfl, by omega, rfl, hok, rfl, by simp [val, Hid], hrow, grow_refl _ _⟩
  case round =>
    obtain ⟨k, c, C, hk, rfl, rfl, hc1, HL, hokC, HD, HV, hrw, hgw⟩ := hrel
    by_cases hlt : k < B.length
    · rcases hB.2.2.2 with ⟨_, _⟩ | ⟨b, off, rfl, hltb, hcb⟩
      · omega
      have hy : wr.cell? ⟨b, off + k, none⟩ = some (.int .u32 ((B.getD k 0 : Nat) : Int)) := (World.cell?_of_block (w := w) (a := ⟨b, off + k, none⟩) (hgw.block b hltb (by simpa using HNE.out (by omega) _ rfl))).trans (hcb k hlt)
      have hx : wr.cell? ⟨g, o + k, none⟩ = some (.int .u32 ((A.getD k 0 : Nat) : Int)) := by
        rw [hrw.cellO HO.out (by rw [HL.out]; omega), drop_getD HD.out]
      have hfz := hrw.frozen (o + k)
      have hxb := ok_getD hok k
      have hyb := ok_getD hB.1 k
      obtain ⟨x, hxe⟩ : ∃ x, x = A.getD k 0 := ⟨_, rfl⟩
      obtain ⟨y, hye⟩ : ∃ y, y = B.getD k 0 := ⟨_, rfl⟩
      rw [← hxe] at hx hxb
      rw [← hye] at hy hyb
      have HX := hid hxe
      have HY := hid hye
      clear hxe hye hcb
      go_wp2_with fail
      refine (addWords_any _ x y c hxb hyb hc1 _ rfl).mono ?_
      rintro e w1 ⟨s, c', rfl, rfl, HS, hs, hc'⟩
      go_wp2
      go_roundw
      case rel =>
        refine ⟨k + 1, c', C.set k s, by omega, by go_num, rfl, hc', by rw [Hid, List.length_set]; exact HL.out, ok_set hokC _ _ hs, set_drop_succ HD.out, ?_, hrw.setO HO.out (by rw [HL.out]; omega), grow_set hgw _ _⟩
        exact add_step (by rw [HL.out]; omega) (by omega) hlt HV.out (by rw [← HX.out, ← HY.out]; exact HS.out)
      case measure => simp [intOf]; omega
    · have hkB : k = B.length := by omega
      subst hkB
      have HV2 : Hid (val (C.take B.length) + pw B.length * c = val (A.take B.length) + val B) := hid (by have := HV.out; rwa [List.take_length] at this)
      clear HV
      go_wp2
      go_loopw [5, 8] (fun s i wr => ∃ (k c : Nat) (C : List Nat), B.length ≤ k ∧ k ≤ A.length ∧ i = .int .i64 (k : Int) ∧ s = .int .u32 (c : Int) ∧ c ≤ 1 ∧ Hid (C.length = A.length) ∧ ok C ∧ Hid (C.drop k = A.drop k) ∧ Hid (val (C.take k) + pw k * c = val (A.take k) + val B) ∧ RowAt wr g (P ++ (C ++ T)) ∧ w.grownBy wr (some g)) (fun s i wr => A.length - (intOf i).toNat)
      case atStart => exact ⟨B.length, c, C, Nat.le_refl _, hBA, rfl, rfl, hc1, HL, hokC, HD, HV2, hrw, hgw⟩
      case round =>
        clear HL HD HV2 hrw hgw hokC hc1
        obtain ⟨k, c, C, hkb, hk, rfl, rfl, hc1, HL, hokC, HD, HV, hrw, hgw⟩ := hrel
        by_cases hlt2 : k < A.length
        · by_cases hc0 : c = 0
          · subst hc0
            go_wp2
            go_ret
            exact ⟨C, 0, rfl, hrw, HL.out, hokC, by have := end_zero HL.out (by omega) HD.out HV.out; simpa using this, by omega, hgw⟩
          · have hcc : (0 : Int) < (c : Int) := by omega
            have hx : wr.cell? ⟨g, o + k, none⟩ = some (.int .u32 ((A.getD k 0 : Nat) : Int)) := by
              rw [hrw.cellO HO.out (by rw [HL.out]; omega), drop_getD HD.out]
            have hfz := hrw.frozen (o + k)
            have hxb := ok_getD hok k
            obtain ⟨x, hxe⟩ : ∃ x, x = A.getD k 0 := ⟨_, rfl⟩
            rw [← hxe] at hx hxb
            have HX := hid hxe
            clear hxe
            go_wp2_with fail
            refine (addWords_any _ x 0 c hxb (by omega) hc1 0 rfl).mono ?_
            rintro e w1 ⟨s, c', rfl, rfl, HS, hs, hc'⟩
            go_wp2
            go_roundw
            case rel =>
              refine ⟨k + 1, c', C.set k s, by omega, by omega, by go_num, rfl, hc', by rw [Hid, List.length_set]; exact HL.out, ok_set hokC _ _ hs, set_drop_succ HD.out, ?_, hrw.setO HO.out (by rw [HL.out]; omega), grow_set hgw _ _⟩
              exact add_step0 (by rw [HL.out]; omega) hlt2 HV.out (by rw [← HX.out]; exact HS.out)
            case measure => simp [intOf]; omega
        · have hkA : k = A.length := by omega
          subst hkA
          have HV3 : Hid (val C + pw A.length * c = val A + val B) := hid (by have := HV.out; rw [List.take_length, ← HL.out, List.take_length] at this; rw [← HL.out]; exact this)
          go_wp2
          go_ret
          exact ⟨C, c, rfl, hrw, HL.out, hokC, HV3.out, hc1, hgw⟩

set_option maxHeartbeats 3200000 in
theorem subFrom_any (w : World) (g o cap : Nat) (P A T : List Nat) (bo : Option Addr) (cb : Nat) (B : List Nat) (ho : o = P.length) (hrow : RowAt w g (P ++ (A ++ T))) (hok : ok A) (hl : A.length ≤ 2000000) (hc : A.length ≤ cap) (hcm : cap ≤ 9223372036854775807)
    (hB : SlAt w bo cb B) (hne : 0 < B.length → ∀ ad, bo = some ad → ad.block ≠ g) (hBA : B.length ≤ A.length) :
    Calls Tryz.prog 93 #[.slice (some ⟨g, o, none⟩) A.length cap, .slice bo B.length cb] w fun e w' => ∃ (A' : List Nat) (c : Nat), e = .returned (.int .u32 (c : Int)) ∧ RowAt w' g (P ++ (A' ++ T)) ∧ A'.length = A.length ∧ ok A' ∧ val A + pw A.length * c = val A' + val B ∧ c ≤ 1 ∧ w.grownBy w' (some g) := by
  have HO := hid ho
  have HNE := hid hne
  have hcB := hB.2.2.1
  have hlB := hB.2.1
  unfold maxLen at hcB
  clear ho hne
  go_enter Tryz.func93, Tryz.ntmps93
  go_wp2
  go_loopw [5, 11] (fun s i wr => ∃ (k c : Nat) (C : List Nat), k ≤ B.length ∧ i = .int .i64 (k : Int) ∧ s = .int .u32 (c : Int) ∧ c ≤ 1 ∧ Hid (C.length = A.length) ∧ ok C ∧ Hid (C.drop k = A.drop k) ∧ Hid (val (A.take k) + pw k * c = val (C.take k) + val (B.take k)) ∧ RowAt wr g (P ++ (C ++ T)) ∧ w.grownBy wr (some g)) (fun s i wr => B.length - (intOf i).toNat)
  case atStart => exact ⟨0, 0, A, Nat.zero_le _, rfl, rfl, by omega, rfl, hok, rfl, by simp [val, Hid], hrow, grow_refl _ _⟩
  case round =>
    obtain ⟨k, c, C, hk, rfl, rfl, hc1, HL, hokC, HD, HV, hrw, hgw⟩ := hrel
    by_cases hlt : k < B.length
    · rcases hB.2.2.2 with ⟨_, _⟩ | ⟨b, off, rfl, hltb, hcb⟩
      · omega
      have hy : wr.cell? ⟨b, off + k, none⟩ = some (.int .u32 ((B.getD k 0 : Nat) : Int)) := (World.cell?_of_block (w := w) (a := ⟨b, off + k, none⟩) (hgw.block b hltb (by simpa using HNE.out (by omega) _ rfl))).trans (hcb k hlt)
      have hx : wr.cell? ⟨g, o + k, none⟩ = some (.int .u32 ((A.getD k 0 : Nat) : Int)) := by
        rw [hrw.cellO HO.out (by rw [HL.out]; omega), drop_getD HD.out]
      have hfz := hrw.frozen (o + k)
      have hxb := ok_getD hok k
      have hyb := ok_getD hB.1 k
      obtain ⟨x, hxe⟩ : ∃ x, x = A.getD k 0 := ⟨_, rfl⟩
      obtain ⟨y, hye⟩ : ∃ y, y = B.getD k 0 := ⟨_, rfl⟩
      rw [← hxe] at hx hxb
      rw [← hye] at hy hyb
      have HX := hid hxe
      have HY := hid hye
      clear hxe hye hcb
      go_wp2_with fail
      refine (subWords_any _ x y c hxb hyb hc1 _ rfl).mono ?_
      rintro e w1 ⟨s, c', rfl, rfl, HS, hs, hc'⟩
      go_wp2
      go_roundw
      case rel =>
        refine ⟨k + 1, c', C.set k s, by omega, by go_num, rfl, hc', by rw [Hid, List.length_set]; exact HL.out, ok_set hokC _ _ hs, set_drop_succ HD.out, ?_, hrw.setO HO.out (by rw [HL.out]; omega), grow_set hgw _ _⟩
        exact sub_step (by rw [HL.out]; omega) (by omega) hlt HV.out (by rw [← HX.out, ← HY.out]; exact HS.out)
      case measure => simp [intOf]; omega
    · have hkB : k = B.length := by omega
      subst hkB
      have HV2 : Hid (val (A.take B.length) + pw B.length * c = val (C.take B.length) + val B) := hid (by have := HV.out; rwa [List.take_length] at this)
      clear HV
      go_wp2
      go_loopw [5, 8] (fun s i wr => ∃ (k c : Nat) (C : List Nat), B.length ≤ k ∧ k ≤ A.length ∧ i = .int .i64 (k : Int) ∧ s = .int .u32 (c : Int) ∧ c ≤ 1 ∧ Hid (C.length = A.length) ∧ ok C ∧ Hid (C.drop k = A.drop k) ∧ Hid (val (A.take k) + pw k * c = val (C.take k) + val B) ∧ RowAt wr g (P ++ (C ++ T)) ∧ w.grownBy wr (some g)) (fun s i wr => A.length - (intOf i).toNat)
      case atStart => exact ⟨B.length, c, C, Nat.le_refl _, hBA, rfl, rfl, hc1, HL, hokC, HD, HV2, hrw, hgw⟩
      case round =>
        clear HL HD HV2 hrw hgw hokC hc1
        obtain ⟨k, c, C, hkb, hk, rfl, rfl, hc1, HL, hokC, HD, HV, hrw, hgw⟩ := hrel
        by_cases hlt2 : k < A.length
        · by_cases hc0 : c = 0
          · subst hc0
            go_wp2
            go_ret
            exact ⟨C, 0, rfl, hrw, HL.out, hokC, by have := end_zero HL.out.symm (by rw [HL.out]; omega) HD.out.symm HV.out; simpa using this, by omega, hgw⟩
          · have hcc : (0 : Int) < (c : Int) := by omega
            have hx : wr.cell? ⟨g, o + k, none⟩ = some (.int .u32 ((A.getD k 0 : Nat) : Int)) := by
              rw [hrw.cellO HO.out (by rw [HL.out]; omega), drop_getD HD.out]
            have hfz := hrw.frozen (o + k)
            have hxb := ok_getD hok k
            obtain ⟨x, hxe⟩ : ∃ x, x = A.getD k 0 := ⟨_, rfl⟩
            rw [← hxe] at hx hxb
            have HX := hid hxe
            clear hxe
            go_wp2_with fail
            refine (subWords_any _ x 0 c hxb (by omega) hc1 0 rfl).mono ?_
            rintro e w1 ⟨s, c', rfl, rfl, HS, hs, hc'⟩
            go_wp2
            go_roundw
            case rel =>
              refine ⟨k + 1, c', C.set k s, by omega, by omega, by go_num, rfl, hc', by rw [Hid, List.length_set]; exact HL.out, ok_set hokC _ _ hs, set_drop_succ HD.out, ?_, hrw.setO HO.out (by rw [HL.out]; omega), grow_set hgw _ _⟩
              exact sub_step0 (by rw [HL.out]; omega) hlt2 HV.out (by rw [← HX.out]; exact HS.out)
            case measure => simp [intOf]; omega
        · have hkA : k = A.length := by omega
          subst hkA
          have HV3 : Hid (val A + pw A.length * c = val C + val B) := hid (by have := HV.out; rw [List.take_length, ← HL.out, List.take_length] at this; rw [← HL.out]; exact this)
          go_wp2
          go_ret
          exact ⟨C, c, rfl, hrw, HL.out, hokC, HV3.out, hc1, hgw⟩

end Go.Proofs.YtogdchddmjokmaaGreatDoor

namespace Go.Proofs.YtogdchddmjokmaaGreatDoor
open Go.RowKit Lm
set_option linter.unusedSimpArgs false
set_option linter.unusedVariables false
set_option maxRecDepth 100000

/-- Limbs that a call has made: in new memory, so many, that come to V. -/
def Made (W : World) (L V : Nat) (e : Ending) (w' : World) : Prop :=
  ∃ g cap k l, e = .returned (.slice (some ⟨g, 0, none⟩) k cap) ∧ Hid (k = l.length) ∧ SlAt w' (some ⟨g, 0, none⟩) cap l ∧ W.heap.size ≤ g ∧ l.length ≤ L ∧ val l = V ∧ Below W.heap.size W w'

theorem splice_u (n : Nat) (l : List Nat) (h : l.length ≤ n) : splice (U (List.replicate n 0)) 0 (U l) = U (l ++ List.replicate (n - l.length) 0) := by
  unfold splice
  simp [U]
theorem val_pad (l : List Nat) (m : Nat) : val (l ++ List.replicate m 0) = val l := by
  rw [val_append, val_replicate]; omega

theorem addInto_k (w : World) (g o cap ka : Nat) (P A T : List Nat) (bo : Option Addr) (cb : Nat) (B : List Nat) (ho : o = P.length) (hka : ka = A.length) (hrow : RowAt w g (P ++ (A ++ T))) (hok : ok A) (hl : A.length ≤ 2000000) (hc : A.length ≤ cap) (hcm : cap ≤ 9223372036854775807)
    (hB : SlAt w bo cb B) (hne : 0 < B.length → ∀ ad, bo = some ad → ad.block ≠ g) (hBA : B.length ≤ A.length) :
    Calls Tryz.prog 91 #[.slice (some ⟨g, o, none⟩) ka cap, .slice bo B.length cb] w fun e w' => ∃ (A' : List Nat) (c : Nat), e = .returned (.int .u32 (c : Int)) ∧ RowAt w' g (P ++ (A' ++ T)) ∧ A'.length = A.length ∧ ok A' ∧ val A' + pw A.length * c = val A + val B ∧ c ≤ 1 ∧ w.grownBy w' (some g) := by
  subst hka
  exact addInto_any w g o cap P A T bo cb B ho hrow hok hl hc hcm hB hne hBA
theorem subFrom_k (w : World) (g o cap ka : Nat) (P A T : List Nat) (bo : Option Addr) (cb : Nat) (B : List Nat) (ho : o = P.length) (hka : ka = A.length) (hrow : RowAt w g (P ++ (A ++ T))) (hok : ok A) (hl : A.length ≤ 2000000) (hc : A.length ≤ cap) (hcm : cap ≤ 9223372036854775807)
    (hB : SlAt w bo cb B) (hne : 0 < B.length → ∀ ad, bo = some ad → ad.block ≠ g) (hBA : B.length ≤ A.length) :
    Calls Tryz.prog 93 #[.slice (some ⟨g, o, none⟩) ka cap, .slice bo B.length cb] w fun e w' => ∃ (A' : List Nat) (c : Nat), e = .returned (.int .u32 (c : Int)) ∧ RowAt w' g (P ++ (A' ++ T)) ∧ A'.length = A.length ∧ ok A' ∧ val A + pw A.length * c = val A' + val B ∧ c ≤ 1 ∧ w.grownBy w' (some g) := by
  subst hka
  exact subFrom_any w g o cap P A T bo cb B ho hrow hok hl hc hcm hB hne hBA
theorem no_carry {A B A' : List Nat} {c : Nat} (ha : ok A) (hb : ok B) (hle : B.length ≤ A.length) (h : val A' + pw (A.length + 1) * c = val A + val B) : val A' = val A + val B := by
  have h1 := val_lt ha
  have h2 := val_lt hb
  have h3 := pw_mono hle
  by_cases h0 : c = 0
  · subst h0; simpa using h
  · exfalso
    have h4 : pw (A.length + 1) * 1 ≤ pw (A.length + 1) * c := Nat.mul_le_mul_left _ (by omega)
    simp only [pw] at h4 h
    omega
theorem no_borrow {A B A' : List Nat} {c : Nat} (hok : ok A') (hl : A'.length = A.length) (hv : val B ≤ val A) (h : val A + pw A.length * c = val A' + val B) : val A' = val A - val B := by
  have h1 := val_lt hok
  rw [hl] at h1
  by_cases h0 : c = 0
  · subst h0; simp at h; omega
  · exfalso
    have h4 : pw A.length * 1 ≤ pw A.length * c := Nat.mul_le_mul_left _ (by omega)
    omega
/-- What came in lies in no new block (or is empty). -/
theorem slAt_ne_aux {w : World} {bo : Option Addr} {cb : Nat} {B : List Nat} (h : SlAt w bo cb B) (hp : 0 < B.length) : ∀ ad, bo = some ad → ad.block ≠ w.heap.size := by
  intro ad e
  rcases h.2.2.2 with ⟨h0, _⟩ | ⟨b, off, e2, hlt, _⟩
  · omega
  · rw [e] at e2; simp at e2; subst e2; simp; omega

set_option maxHeartbeats 1600000 in
theorem addLimbs_le (w : World) (ao : Option Addr) (ca : Nat) (A : List Nat) (bo : Option Addr) (cb : Nat) (B : List Nat) (ha : SlAt w ao ca A) (hb : SlAt w bo cb B) (hN : A.length ≤ 1000000) (hle : B.length ≤ A.length) :
    Calls Tryz.prog 70 #[.slice ao A.length ca, .slice bo B.length cb] w (Made w (A.length + 1) (val A + val B)) := by
  have hca := ha.2.2.1
  have hcb := hb.2.2.1
  unfold maxLen at hca hcb
  have hla := ha.2.1
  have hlb := hb.2.1
  obtain ⟨i0, hi, hz0, hz1, hz2⟩ := info_parts Tryz.info32
  go_enter Tryz.func70, Tryz.ntmps70
  go_wp2_with (first
    | (at_make; go_must (refine wpList_make_full _ rfl _ _ 22 rfl w.heap.size 55 i0 (.int .u32 0) 1 Tryz.underlying22 hi hz0 hz1 .i64 .i64 _ _ (A.length + 1) rfl rfl (by omega) (by omega) (by rw [hz2]; omega) (by unfold maxLen; omega) (by simp) ?_); intro w1 hown hgrow; rw [made32] at hown; obtain ⟨hrow, _⟩ := rowAt_of_own hown; have hb1 : Below w.heap.size w w1 := (Below.refl _ _).grown hgrow (Nat.le_refl _) (by simp); clear hown hgrow)
    | (with_reducible refine at_copy ?_; go_must (refine wpList_copy_splice rfl _ _ 22 22 rfl 55 Tryz.underlying22 Tryz.size32 _ _ _ _ _ _ rfl rfl w.heap.size 0 (U (List.replicate (A.length + 1) 0)) 55 hrow.heap (U A) (by rw [u_length]; exact (Nat.min_eq_left (by omega)).symm) ?_ (by rw [u_length, u_length]; simp) (u_one A) w.heap.size w hb1 (Nat.le_refl _) ?_); rotate_left; intro w2 hr2 hb2))
  · rw [splice_u _ _ (by omega)] at hr2
    have hr3 : RowAt w2 w.heap.size ([] ++ ((A ++ List.replicate (A.length + 1 - A.length) 0) ++ [])) := by rw [List.nil_append, List.append_nil]; exact hr2
    have hlen : (A ++ List.replicate (A.length + 1 - A.length) 0).length = A.length + 1 := by simp
    have hBw := hb.below hb2
    clear hr2 hrow
    refine (addInto_k w2 w.heap.size 0 (A.length + 1) (A.length + 1) [] (A ++ List.replicate (A.length + 1 - A.length) 0) [] bo cb B rfl hlen.symm hr3 (ok_append.2 ⟨ha.1, ok_replicate _⟩) (by omega) (by omega) (by omega) hBw (slAt_ne_aux hb) (by omega)).mono ?_
    rintro e w3 ⟨A', c, rfl, hr4, hl4, hok4, hv4, hc4, hg4⟩
    have HF : Hid (Made w (A.length + 1) (val A + val B) (.returned (.slice (some ⟨w.heap.size, 0, none⟩) (A.length + 1) (A.length + 1))) w3) := by
      rw [List.nil_append, List.append_nil] at hr4
      have hl5 : A'.length = A.length + 1 := by omega
      refine ⟨w.heap.size, A.length + 1, A.length + 1, A', rfl, hl5.symm, ?_, Nat.le_refl _, by omega, ?_, hb2.grown hg4 hb2.size (by intro k e; simp at e; omega)⟩
      · rw [← hl5]; exact hr4.whole hok4 (by omega)
      · rw [val_pad, hlen] at hv4
        exact no_carry ha.1 hb.1 hle hv4
    clear hr4 hl4 hok4 hv4 hc4 hg4 hBw hr3 hlen
    go_wp2
    go_ret
    exact HF.out
  · intro h0
    rcases ha.2.2.2 with ⟨_, _⟩ | ⟨b, off, rfl, hlt, hc⟩
    · simp [u_length] at h0; omega
    · exact ⟨_, rfl, SlAt.src fun i hi => (hb1.cell (p := ⟨b, off + i, none⟩) hlt).trans (hc i hi)⟩

set_option maxHeartbeats 1600000 in
theorem addLimbs_gt (w : World) (ao : Option Addr) (ca : Nat) (A : List Nat) (bo : Option Addr) (cb : Nat) (B : List Nat) (ha : SlAt w ao ca A) (hb : SlAt w bo cb B) (hN : B.length ≤ 1000000) (hlt' : A.length < B.length) :
    Calls Tryz.prog 70 #[.slice ao A.length ca, .slice bo B.length cb] w (Made w (B.length + 1) (val B + val A)) := by
  have hca := ha.2.2.1
  have hcb := hb.2.2.1
  unfold maxLen at hca hcb
  have hla := ha.2.1
  have hlb := hb.2.1
  have hle : A.length ≤ B.length := by omega
  obtain ⟨i0, hi, hz0, hz1, hz2⟩ := info_parts Tryz.info32
  go_enter Tryz.func70, Tryz.ntmps70
  go_wp2_with (first
    | (at_make; go_must (refine wpList_make_full _ rfl _ _ 22 rfl w.heap.size 55 i0 (.int .u32 0) 1 Tryz.underlying22 hi hz0 hz1 .i64 .i64 _ _ (B.length + 1) rfl rfl (by omega) (by omega) (by rw [hz2]; omega) (by unfold maxLen; omega) (by simp) ?_); intro w1 hown hgrow; rw [made32] at hown; obtain ⟨hrow, _⟩ := rowAt_of_own hown; have hb1 : Below w.heap.size w w1 := (Below.refl _ _).grown hgrow (Nat.le_refl _) (by simp); clear hown hgrow)
    | (with_reducible refine at_copy ?_; go_must (refine wpList_copy_splice rfl _ _ 22 22 rfl 55 Tryz.underlying22 Tryz.size32 _ _ _ _ _ _ rfl rfl w.heap.size 0 (U (List.replicate (B.length + 1) 0)) 55 hrow.heap (U B) (by rw [u_length]; exact (Nat.min_eq_left (by omega)).symm) ?_ (by rw [u_length, u_length]; simp) (u_one B) w.heap.size w hb1 (Nat.le_refl _) ?_); rotate_left; intro w2 hr2 hb2))
  · rw [splice_u _ _ (by omega)] at hr2
    have hr3 : RowAt w2 w.heap.size ([] ++ ((B ++ List.replicate (B.length + 1 - B.length) 0) ++ [])) := by rw [List.nil_append, List.append_nil]; exact hr2
    have hlen : (B ++ List.replicate (B.length + 1 - B.length) 0).length = B.length + 1 := by simp
    have hBw := ha.below hb2
    clear hr2 hrow
    refine (addInto_k w2 w.heap.size 0 (B.length + 1) (B.length + 1) [] (B ++ List.replicate (B.length + 1 - B.length) 0) [] ao ca A rfl hlen.symm hr3 (ok_append.2 ⟨hb.1, ok_replicate _⟩) (by omega) (by omega) (by omega) hBw (slAt_ne_aux ha) (by omega)).mono ?_
    rintro e w3 ⟨A', c, rfl, hr4, hl4, hok4, hv4, hc4, hg4⟩
    have HF : Hid (Made w (B.length + 1) (val B + val A) (.returned (.slice (some ⟨w.heap.size, 0, none⟩) (B.length + 1) (B.length + 1))) w3) := by
      rw [List.nil_append, List.append_nil] at hr4
      have hl5 : A'.length = B.length + 1 := by omega
      refine ⟨w.heap.size, B.length + 1, B.length + 1, A', rfl, hl5.symm, ?_, Nat.le_refl _, by omega, ?_, hb2.grown hg4 hb2.size (by intro k e; simp at e; omega)⟩
      · rw [← hl5]; exact hr4.whole hok4 (by omega)
      · rw [val_pad, hlen] at hv4
        exact no_carry hb.1 ha.1 hle hv4
    clear hr4 hl4 hok4 hv4 hc4 hg4 hBw hr3 hlen
    go_wp2
    go_ret
    exact HF.out
  · intro h0
    rcases hb.2.2.2 with ⟨_, _⟩ | ⟨b, off, rfl, hlt, hc⟩
    · simp [u_length] at h0; omega
    · exact ⟨_, rfl, SlAt.src fun i hi => (hb1.cell (p := ⟨b, off + i, none⟩) hlt).trans (hc i hi)⟩

theorem addLimbs_any (w : World) (ao : Option Addr) (ca : Nat) (A : List Nat) (bo : Option Addr) (cb : Nat) (B : List Nat) (ha : SlAt w ao ca A) (hb : SlAt w bo cb B) (hN : A.length ≤ 1000000) (hM : B.length ≤ 1000000) :
    Calls Tryz.prog 70 #[.slice ao A.length ca, .slice bo B.length cb] w (Made w (A.length + B.length + 1) (val A + val B)) := by
  by_cases h : B.length ≤ A.length
  · refine (addLimbs_le w ao ca A bo cb B ha hb hN h).mono ?_
    rintro e w' ⟨g, cap, k, l, h1, h2, h3, h4, h5, h6, h7⟩
    exact ⟨g, cap, k, l, h1, h2, h3, h4, by omega, h6, h7⟩
  · refine (addLimbs_gt w ao ca A bo cb B ha hb hM (by omega)).mono ?_
    rintro e w' ⟨g, cap, k, l, h1, h2, h3, h4, h5, h6, h7⟩
    exact ⟨g, cap, k, l, h1, h2, h3, h4, by omega, by omega, h7⟩

set_option maxHeartbeats 1600000 in
theorem subLimbs_any (w : World) (ao : Option Addr) (ca : Nat) (A : List Nat) (bo : Option Addr) (cb : Nat) (B : List Nat) (ha : SlAt w ao ca A) (hb : SlAt w bo cb B) (hN : A.length ≤ 1000000) (hle : B.length ≤ A.length) (hv : val B ≤ val A) :
    Calls Tryz.prog 71 #[.slice ao A.length ca, .slice bo B.length cb] w (Made w A.length (val A - val B)) := by
  have hca := ha.2.2.1
  have hcb := hb.2.2.1
  unfold maxLen at hca hcb
  have hla := ha.2.1
  have hlb := hb.2.1
  have HV := hid hv
  clear hv
  go_enter Tryz.func71, Tryz.ntmps71
  go_wp2_with fail
  refine (copied_any _ ao ca A ha hN).mono ?_
  rintro e w1 ⟨rfl, hr, hb1⟩
  have hr2 : RowAt w1 w.heap.size ([] ++ (A ++ [])) := by rw [List.nil_append, List.append_nil]; exact hr
  go_wp2_with fail
  refine (subFrom_k w1 w.heap.size 0 A.length A.length [] A [] bo cb B rfl rfl hr2 ha.1 (by omega) (Nat.le_refl _) (by omega) (hb.below hb1) (slAt_ne_aux hb) hle).mono ?_
  rintro e w3 ⟨A', c, rfl, hr4, hl4, hok4, hv4, hc4, hg4⟩
  have HF : Hid (Made w A.length (val A - val B) (.returned (.slice (some ⟨w.heap.size, 0, none⟩) A.length A.length)) w3) := by
    rw [List.nil_append, List.append_nil] at hr4
    refine ⟨w.heap.size, A.length, A.length, A', rfl, hl4.symm, ?_, Nat.le_refl _, by omega, ?_, hb1.grown hg4 hb1.size (by intro k e; simp at e; omega)⟩
    · rw [← hl4]; exact hr4.whole hok4 (by omega)
    · exact no_borrow hok4 hl4 HV.out hv4
  clear hr4 hl4 hok4 hv4 hc4 hg4 hr2 hr
  go_wp2
  go_ret
  exact HF.out

end Go.Proofs.YtogdchddmjokmaaGreatDoor

namespace Go.Proofs.YtogdchddmjokmaaGreatDoor
open Go.RowKit Lm
set_option linter.unusedSimpArgs false
set_option linter.unusedVariables false
set_option maxRecDepth 100000

theorem cmp_lt {A B : List Nat} {k : Nat} (hok : ok A) (hl : A.length = B.length) (hk : k < A.length) (hd : A.drop (k + 1) = B.drop (k + 1)) (h : A.getD k 0 < B.getD k 0) : val A < val B := by
  have e1 : val A = val (A.take k) + pw k * val (A.drop k) := by
    conv => lhs; rw [← List.take_append_drop k A, val_append]
    rw [show (A.take k).length = k by simp; omega]
  have e2 : val B = val (B.take k) + pw k * val (B.drop k) := by
    conv => lhs; rw [← List.take_append_drop k B, val_append]
    rw [show (B.take k).length = k by simp; omega]
  have h1 := val_lt (ok_take hok k)
  rw [show (A.take k).length = k by simp; omega] at h1
  have h2 : val (A.drop k) + 1 ≤ val (B.drop k) := by
    rw [drop_val A k hk, drop_val B k (by omega), hd]
    omega
  have h3 : pw k * (val (A.drop k) + 1) ≤ pw k * val (B.drop k) := Nat.mul_le_mul_left _ h2
  rw [Nat.mul_add] at h3
  omega
theorem cmpI_lt {x y : Int} (h : x < y) : cmpI x y = -1 := by unfold cmpI; rw [if_pos h]
theorem cmpI_gt {x y : Int} (h : y < x) : cmpI x y = 1 := by unfold cmpI; rw [if_neg (by omega), if_pos h]
theorem cmpI_eq {x y : Int} (h : x = y) : cmpI x y = 0 := by unfold cmpI; rw [if_neg (by omega), if_neg (by omega)]
theorem cmp_len {A B : List Nat} (oa : ok A) (ob : ok B) (ca : canon A) (cb : canon B) (h : A.length ≠ B.length) : cmpI (A.length : Int) (B.length : Int) = cmpI (val A : Int) (val B : Int) := by
  by_cases h1 : A.length < B.length
  · have := val_len_lt oa cb h1
    rw [cmpI_lt (by omega), cmpI_lt (by omega)]
  · have := val_len_lt ob ca (show B.length < A.length by omega)
    rw [cmpI_gt (by omega), cmpI_gt (by omega)]
theorem cmp_top {A B : List Nat} {k : Nat} (oa : ok A) (ob : ok B) (hl : A.length = B.length) (hk : k < A.length) (hd : A.drop (k + 1) = B.drop (k + 1)) (h : A.getD k 0 ≠ B.getD k 0) : cmpI (A.getD k 0 : Int) (B.getD k 0 : Int) = cmpI (val A : Int) (val B : Int) := by
  by_cases h1 : A.getD k 0 < B.getD k 0
  · have := cmp_lt oa hl hk hd h1
    rw [cmpI_lt (by omega), cmpI_lt (by omega)]
  · have := cmp_lt ob hl.symm (by omega) hd.symm (show B.getD k 0 < A.getD k 0 by omega)
    rw [cmpI_gt (by omega), cmpI_gt (by omega)]
theorem drop_pred {A B : List Nat} {k : Nat} (hk0 : 0 < k) (hkA : k ≤ A.length) (hkB : k ≤ B.length) (hd : A.drop k = B.drop k) (h : A.getD (k - 1) 0 = B.getD (k - 1) 0) : A.drop (k - 1) = B.drop (k - 1) := by
  rw [List.drop_eq_getElem_cons (show k - 1 < A.length by omega), List.drop_eq_getElem_cons (show k - 1 < B.length by omega), show k - 1 + 1 = k by omega, hd]
  simp only [List.getD_eq_getElem?_getD, List.getElem?_eq_getElem (show k - 1 < A.length by omega), List.getElem?_eq_getElem (show k - 1 < B.length by omega), Option.getD_some] at h
  rw [h]

set_option maxHeartbeats 1600000 in
theorem cmpLimbs_any (w : World) (ao : Option Addr) (ca : Nat) (A : List Nat) (bo : Option Addr) (cb : Nat) (B : List Nat) (ha : SlAt w ao ca A) (hb : SlAt w bo cb B) (hca : canon A) (hcb : canon B) :
    Calls Tryz.prog 64 #[.slice ao A.length ca, .slice bo B.length cb] w fun e w' => e = .returned (.int .i64 (cmpI (val A : Int) (val B : Int))) ∧ Below w.heap.size w w' := by
  have ha3 := ha.2.2.1
  have hb3 := hb.2.2.1
  unfold maxLen at ha3 hb3
  have hla := ha.2.1
  have hlb := hb.2.1
  by_cases hl : A.length = B.length
  · by_cases h0 : B.length = 0
    · have HE : Hid (cmpI (val A : Int) (val B : Int) = 0) := hid (cmpI_eq (by rw [List.eq_nil_of_length_eq_zero h0, List.eq_nil_of_length_eq_zero (hl.trans h0)]))
      rw [hl, h0]
      clear hl
      go_enter Tryz.func64, Tryz.ntmps64
      go_wp2
      go_loop [5] (fun i => i = .int .i64 (-1)) (fun i => 0)
      case atStart => rfl
      case round =>
        subst hrel
        go_wp2
        go_ret
        exact ⟨ret_int HE.out.symm, Below.refl _ _⟩
    · rcases ha.2.2.2 with ⟨_, _⟩ | ⟨b1, o1, rfl, hlt1, hc1⟩
      · omega
      rcases hb.2.2.2 with ⟨_, _⟩ | ⟨b2, o2, rfl, hlt2, hc2⟩
      · omega
      have HL := hid hl
      rw [hl] at hc1 ⊢
      clear hl hla
      go_enter Tryz.func64, Tryz.ntmps64
      go_wp2
      go_loopw [5] (fun i wr => ∃ k : Nat, k ≤ B.length ∧ i = .int .i64 ((k : Int) - 1) ∧ Hid (A.drop k = B.drop k) ∧ Below w.heap.size w wr) (fun i wr => (intOf i + 1).toNat)
      case atStart => exact ⟨B.length, Nat.le_refl _, rfl, by rw [Hid, List.drop_length, ← HL.out, List.drop_length], Below.refl _ _⟩
      case round =>
        obtain ⟨k, hk, rfl, HD, hbw⟩ := hrel
        by_cases hk0 : k = 0
        · subst hk0
          have HE : Hid (cmpI (val A : Int) (val B : Int) = 0) := hid (cmpI_eq (by have := HD.out; simp only [List.drop_zero] at this; rw [this]))
          go_wp2
          go_ret
          exact ⟨ret_int HE.out.symm, hbw⟩
        · have hx := (hbw.cell (p := ⟨b1, o1 + (k - 1), none⟩) hlt1).trans (hc1 (k - 1) (by omega))
          have hy := (hbw.cell (p := ⟨b2, o2 + (k - 1), none⟩) hlt2).trans (hc2 (k - 1) (by omega))
          have hk1 : (0 : Int) ≤ (k : Int) - 1 := by omega
          have hk2 : (k : Int) - 1 < (B.length : Int) := by omega
          obtain ⟨x, hxe⟩ : ∃ x, x = A.getD (k - 1) 0 := ⟨_, rfl⟩
          obtain ⟨y, hye⟩ : ∃ y, y = B.getD (k - 1) 0 := ⟨_, rfl⟩
          rw [← hxe] at hx
          rw [← hye] at hy
          have HX := hid hxe
          have HY := hid hye
          clear hxe hye hc1 hc2
          by_cases hne : x = y
          · have hne2 : ((x : Int) != (y : Int)) = false := by simp; omega
            have HDP := hid (drop_pred (A := A) (B := B) (by omega) (by rw [HL.out]; exact hk) hk HD.out (by rw [← HX.out, ← HY.out]; exact hne))
            clear hne
            go_wp2
            go_quiet (fail)
            go_wp2
            go_roundw
            case rel => exact ⟨k - 1, by omega, by go_num, HDP, (by repeat (first | exact Below.refl _ _ | refine Below.alloc ?_ ?_ _ | refine Below.setCell ?_ ?_ _ | refine Below.drew ?_ | refine below_drewN ?_ _ | (· simp) | omega | (· simp; omega) | exact Below.size (by assumption) | assumption | refine below_call ?_ (by assumption) ?_))⟩
            case measure => simp [intOf]; omega
          · have hne2 : ((x : Int) != (y : Int)) = true := by simp; omega
            have HC := hid (cmp_top (A := A) (B := B) (k := k - 1) ha.1 hb.1 HL.out (by rw [HL.out]; omega) (by rw [show k - 1 + 1 = k by omega]; exact HD.out) (by rw [← HX.out, ← HY.out]; exact hne))
            rw [← HX.out, ← HY.out] at HC
            clear hne
            go_wp2
            go_quiet (fail)
            go_wp2
            go_region_held3 (fun w' => w'.cell? ⟨b1, o1 + (k - 1), none⟩ = some (.int .u32 (x : Int)) ∧ w'.cell? ⟨b2, o2 + (k - 1), none⟩ = some (.int .u32 (y : Int))) (refine ⟨hx, hy⟩) (first | (go_at_call 84; go_must (refine (compare32 _ _ _).mono ?_); rintro e w' ⟨rfl, rfl⟩))
            go_wp2
            go_ret
            exact ⟨ret_int HC.out, (by repeat (first | exact Below.refl _ _ | refine Below.alloc ?_ ?_ _ | refine Below.setCell ?_ ?_ _ | refine Below.drew ?_ | refine below_drewN ?_ _ | (· simp) | omega | (· simp; omega) | exact Below.size (by assumption) | assumption | refine below_call ?_ (by assumption) ?_))⟩
  · have hl2 : ((A.length : Int) != (B.length : Int)) = true := by simp; omega
    have HC := hid (cmp_len ha.1 hb.1 hca hcb hl)
    go_enter Tryz.func64, Tryz.ntmps64
    go_wp2_with (go_at_call 83; refine (compareInt _ _ _).mono ?_; rintro e w' ⟨rfl, rfl⟩)
    go_ret
    exact ⟨ret_int HC.out, Below.refl _ _⟩

end Go.Proofs.YtogdchddmjokmaaGreatDoor

namespace Go.Proofs.YtogdchddmjokmaaGreatDoor
open Go.RowKit Lm
set_option linter.unusedSimpArgs false
set_option linter.unusedVariables false
set_option maxRecDepth 100000

theorem times_step {A B C : List Nat} {k c s c' x : Nat} (hkC : k < C.length) (hkA : k < A.length) (hkB : k < B.length) (hv : val (C.take k) + pw k * c = val (A.take k) + x * val (B.take k)) (hs : s + 4294967296 * c' = x * B.getD k 0 + A.getD k 0 + c) :
    val ((C.set k s).take (k + 1)) + pw (k + 1) * c' = val (A.take (k + 1)) + x * val (B.take (k + 1)) := by
  rw [take_set_succ hkC, val_take_succ A k hkA, val_take_succ B k hkB, pw_succ_mul]
  have h1 := congrArg (pw k * ·) hs
  simp only [Nat.mul_add] at h1
  have h2 : x * (pw k * B.getD k 0) = pw k * (x * B.getD k 0) := by rw [← Nat.mul_assoc, Nat.mul_comm x, Nat.mul_assoc]
  rw [Nat.mul_add, h2]
  omega
theorem mul_bound {x y : Nat} (hx : x < 4294967296) (hy : y < 4294967296) : x * y ≤ 18446744065119617025 := by
  have := Nat.mul_le_mul (show x ≤ 4294967295 by omega) (show y ≤ 4294967295 by omega)
  omega

set_option maxHeartbeats 3200000 in
theorem addTimes_any (w : World) (g o cap ka : Nat) (P A T : List Nat) (bo : Option Addr) (cb : Nat) (B : List Nat) (x : Nat) (ho : o = P.length) (hka : ka = A.length) (hrow : RowAt w g (P ++ (A ++ T))) (hok : ok A) (hl : A.length ≤ 2000000) (hc : A.length ≤ cap) (hcm : cap ≤ 9223372036854775807)
    (hB : SlAt w bo cb B) (hne : 0 < B.length → ∀ ad, bo = some ad → ad.block ≠ g) (hBA : B.length = A.length) (hx : x < 4294967296) :
    Calls Tryz.prog 101 #[.slice (some ⟨g, o, none⟩) ka cap, .slice bo B.length cb, .int .u32 (x : Int)] w fun e w' => ∃ (A' : List Nat) (c : Nat), e = .returned (.int .u32 (c : Int)) ∧ RowAt w' g (P ++ (A' ++ T)) ∧ A'.length = A.length ∧ ok A' ∧ val A' + pw A.length * c = val A + x * val B ∧ c < 4294967296 ∧ w.grownBy w' (some g) := by
  subst hka
  have HO := hid ho
  have HNE := hid hne
  have HBA := hid hBA
  have hcB := hB.2.2.1
  have hlB := hB.2.1
  unfold maxLen at hcB
  have hle : B.length ≤ A.length := by omega
  have hge : A.length ≤ B.length := by omega
  clear ho hne hBA
  go_enter Tryz.func101, Tryz.ntmps101
  go_wp2
  go_loopw [7, 13] (fun s i wr => ∃ (k c : Nat) (C : List Nat), k ≤ B.length ∧ i = .int .i64 (k : Int) ∧ s = .int .u64 (c : Int) ∧ c < 4294967296 ∧ Hid (C.length = A.length) ∧ ok C ∧ Hid (C.drop k = A.drop k) ∧ Hid (val (C.take k) + pw k * c = val (A.take k) + x * val (B.take k)) ∧ RowAt wr g (P ++ (C ++ T)) ∧ w.grownBy wr (some g)) (fun s i wr => B.length - (intOf i).toNat)
  case atStart => exact ⟨0, 0, A, Nat.zero_le _, rfl, rfl, by omega, rfl, hok, rfl, by simp [val, Hid], hrow, grow_refl _ _⟩
  case round =>
    obtain ⟨k, c, C, hk, rfl, rfl, hc1, HL, hokC, HD, HV, hrw, hgw⟩ := hrel
    by_cases hlt : k < B.length
    · rcases hB.2.2.2 with ⟨_, _⟩ | ⟨b, off, rfl, hltb, hcb⟩
      · omega
      have hy : wr.cell? ⟨b, off + k, none⟩ = some (.int .u32 ((B.getD k 0 : Nat) : Int)) := (World.cell?_of_block (w := w) (a := ⟨b, off + k, none⟩) (hgw.block b hltb (by simpa using HNE.out (by omega) _ rfl))).trans (hcb k hlt)
      have hz : wr.cell? ⟨g, o + k, none⟩ = some (.int .u32 ((A.getD k 0 : Nat) : Int)) := by
        rw [hrw.cellO HO.out (by rw [HL.out]; omega), drop_getD HD.out]
      have hfz := hrw.frozen (o + k)
      have hzb := ok_getD hok k
      have hyb := ok_getD hB.1 k
      obtain ⟨z, hze⟩ : ∃ z, z = A.getD k 0 := ⟨_, rfl⟩
      obtain ⟨y, hye⟩ : ∃ y, y = B.getD k 0 := ⟨_, rfl⟩
      rw [← hze] at hz hzb
      rw [← hye] at hy hyb
      have HZ := hid hze
      have HY := hid hye
      have hm := mul_bound hx hyb
      obtain ⟨m, hme⟩ : ∃ m, m = x * y := ⟨_, rfl⟩
      rw [← hme] at hm
      have HM := hid hme
      have hmi : (x : Int) * (y : Int) = (m : Int) := by rw [hme]; simp
      clear hze hye hcb hme
      go_wp2
      go_roundw
      case rel =>
        have e1 : ((m : Int) + z + c) % 4294967296 = (((m + z + c) % 4294967296 : Nat) : Int) := by omega
        rw [e1]
        refine ⟨k + 1, (m + z + c) / 4294967296, C.set k ((m + z + c) % 4294967296), by omega, by go_num, by go_num, by omega, by rw [Hid, List.length_set]; exact HL.out, ok_set hokC _ _ (Nat.mod_lt _ (by omega)), set_drop_succ HD.out, ?_, hrw.setO HO.out (by rw [HL.out]; omega), grow_set hgw _ _⟩
        exact times_step (by rw [HL.out]; omega) (by omega) hlt HV.out (by rw [← HZ.out, ← HY.out, ← HM.out]; omega)
      case measure => simp [intOf]; omega
    · have hkB : k = B.length := by omega
      subst hkB
      have HV2 : Hid (val C + pw A.length * c = val A + x * val B) := hid (by
        have := HV.out
        rw [List.take_length, HBA.out, List.take_length, ← HL.out, List.take_length] at this
        rw [← HL.out]
        exact this)
      go_wp2
      go_ret
      exact ⟨C, c, rfl, hrw, HL.out, hokC, HV2.out, hc1, hgw⟩

theorem mul_step {P S S' : List Nat} {c x VA VB i lb : Nat} (hP : P.length = i) (hS : S.length = lb) (hS' : S'.length = lb) (hv : val (P ++ S) = VA * VB) (h : val S' + pw lb * c = val S + x * VB) : val (P ++ (S' ++ [c])) = (VA + pw i * x) * VB := by
  rw [val_append, val_append, hP, hS']
  rw [val_append, hP] at hv
  have e : val [c] = c := by simp [val]
  rw [e, h, Nat.mul_add, Nat.add_mul, ← hv, Nat.mul_assoc]
  omega

/-- The row of a product when i limbs have been done. -/
def MulRow (w : World) (g i lb la : Nat) (V : Nat) : Prop := ∃ R : List Nat, R.length = i + lb ∧ ok R ∧ val R = V ∧ RowAt w g (R ++ List.replicate (la - i) 0)

set_option maxHeartbeats 3200000 in
theorem mulLimbs_any (w : World) (ao : Option Addr) (ca : Nat) (A : List Nat) (bo : Option Addr) (cb : Nat) (B : List Nat) (ha : SlAt w ao ca A) (hb : SlAt w bo cb B) (hN : A.length ≤ 500000) (hM : B.length ≤ 500000) :
    Calls Tryz.prog 79 #[.slice ao A.length ca, .slice bo B.length cb] w (Made w (A.length + B.length) (val A * val B)) := by
  have hca := ha.2.2.1
  have hcb := hb.2.2.1
  unfold maxLen at hca hcb
  have hla := ha.2.1
  have hlb := hb.2.1
  obtain ⟨i0, hi, hz0, hz1, hz2⟩ := info_parts Tryz.info32
  go_enter Tryz.func79, Tryz.ntmps79
  go_wp2_with (at_make; go_must (refine wpList_make_full _ rfl _ _ 22 rfl w.heap.size 55 i0 (.int .u32 0) 1 Tryz.underlying22 hi hz0 hz1 .i64 .i64 _ _ (A.length + B.length) rfl rfl (by omega) (by omega) (by rw [hz2]; omega) (by unfold maxLen; omega) (by simp) ?_); intro w1 hown hgrow; rw [made32] at hown; obtain ⟨hrow, _⟩ := rowAt_of_own hown; have hb1 : Below w.heap.size w w1 := (Below.refl _ _).grown hgrow (Nat.le_refl _) (by simp); clear hown hgrow)
  go_loopw [16] (fun i wr => ∃ k : Nat, k ≤ A.length ∧ i = .int .i64 (k : Int) ∧ Hid (MulRow wr w.heap.size k B.length A.length (val (A.take k) * val B)) ∧ Below w.heap.size w wr) (fun i wr => A.length - (intOf i).toNat)
  case atStart =>
    refine ⟨0, Nat.zero_le _, rfl, ⟨List.replicate B.length 0, by simp, ok_replicate _, by simp [val, val_replicate], ?_⟩, hb1⟩
    have e : List.replicate B.length 0 ++ List.replicate (A.length - 0) 0 = List.replicate (A.length + B.length) 0 := by simp [Nat.add_comm]
    rw [e]; exact hrow
  case round =>
    obtain ⟨k, hk, rfl, HR, hbw⟩ := hrel
    by_cases hlt : k < A.length
    · rcases ha.2.2.2 with ⟨_, _⟩ | ⟨b, off, rfl, hltb, hcb'⟩
      · omega
      have hx := (hbw.cell (p := ⟨b, off + k, none⟩) hltb).trans (hcb' k hlt)
      have hxb := ok_getD ha.1 k
      have HT := hid (val_take_succ A k hlt)
      obtain ⟨x, hxe⟩ : ∃ x, x = A.getD k 0 := ⟨_, rfl⟩
      rw [← hxe] at hx hxb HT
      clear hxe hcb'
      go_wp2_with fail
      obtain ⟨R, hRl, hRok, hRv, hRr⟩ := HR.out
      have hP : (R.take k).length = k := by simp; omega
      have hS : (R.drop k).length = B.length := by simp; omega
      have hRr2 : RowAt wr w.heap.size (R.take k ++ (R.drop k ++ List.replicate (A.length - k) 0)) := by rw [← List.append_assoc, List.take_append_drop]; exact hRr
      refine (addTimes_any wr w.heap.size k (A.length + B.length - k) B.length (R.take k) (R.drop k) (List.replicate (A.length - k) 0) bo cb B x hP.symm hS.symm hRr2 (ok_drop hRok k) (by omega) (by omega) (by omega) (hb.below hbw) (slAt_ne_aux hb) hS.symm hxb).mono ?_
      rintro e w2 ⟨S', c, rfl, hr2, hl2, hok2, hv2, hc2, hg2⟩
      have hz : w2.cell? ⟨w.heap.size, k + B.length, none⟩ = some (.int .u32 ((0 : Nat) : Int)) := by
        rw [hr2.cell (k + B.length) (by simp; omega)]
        have e2 : (R.take k ++ (S' ++ List.replicate (A.length - k) 0)).getD (k + B.length) 0 = 0 := by
          rw [List.getD_eq_getElem?_getD, List.getElem?_append_right (by omega), hP, List.getElem?_append_right (by omega), List.getElem?_replicate]
          rw [if_pos (by omega)]; rfl
        rw [e2]
      have hfz := hr2.frozen (k + B.length)
      have HN : Hid (MulRow (w2.setCell ⟨w.heap.size, k + B.length, none⟩ (.int .u32 (c : Int))) w.heap.size (k + 1) B.length A.length (val (A.take (k + 1)) * val B)) := by
        refine ⟨R.take k ++ (S' ++ [c]), by simp; omega, ok_append.2 ⟨ok_take hRok k, ok_append.2 ⟨hok2, by rw [ok_cons]; exact ⟨hc2, ok_nil⟩⟩⟩, ?_, ?_⟩
        · rw [HT.out]
          exact mul_step (S := R.drop k) hP hS (by omega) (by rw [List.take_append_drop]; exact hRv) (by rw [hS] at hv2; exact hv2)
        · have h3 := hr2.set (k + B.length) c
          rw [List.set_append_right _ _ (by omega), hP, List.set_append_right _ _ (by omega)] at h3
          have e3 : (List.replicate (A.length - k) 0).set (k + B.length - k - S'.length) c = c :: List.replicate (A.length - (k + 1)) 0 := by
            rw [show k + B.length - k - S'.length = 0 by omega, show A.length - k = (A.length - (k + 1)) + 1 by omega, List.replicate_succ]
            rfl
          rw [e3] at h3
          have e4 : R.take k ++ (S' ++ [c]) ++ List.replicate (A.length - (k + 1)) 0 = R.take k ++ (S' ++ c :: List.replicate (A.length - (k + 1)) 0) := by simp
          rw [e4]
          exact h3
      have hb2 : Below w.heap.size w w2 := hbw.grown hg2 hbw.size (by intro q e; simp at e; omega)
      clear hr2 hl2 hok2 hv2 hg2 hRl hRok hRv hRr hP hS hRr2 HR
      go_wp2
      go_roundw
      case rel => exact ⟨k + 1, by omega, by go_num, HN, hb2.setCell (by simp) _⟩
      case measure => simp [intOf]; omega
    · have hkA : k = A.length := by omega
      subst hkA
      obtain ⟨R, hRl, hRok, hRv, hRr⟩ := HR.out
      have HF : Hid (Made w (A.length + B.length) (val A * val B) (.returned (.slice (some ⟨w.heap.size, 0, none⟩) (A.length + B.length) (A.length + B.length))) wr) := by
        rw [Nat.sub_self, List.replicate_zero, List.append_nil] at hRr
        rw [List.take_length] at hRv
        exact ⟨w.heap.size, A.length + B.length, A.length + B.length, R, rfl, hRl.symm, by rw [← hRl]; exact hRr.whole hRok (by omega), Nat.le_refl _, by omega, hRv, hbw⟩
      clear hRl hRok hRv hRr HR
      go_wp2
      go_ret
      exact HF.out

end Go.Proofs.YtogdchddmjokmaaGreatDoor

namespace Go.Proofs.YtogdchddmjokmaaGreatDoor
open Go.RowKit Lm
set_option linter.unusedSimpArgs false
set_option linter.unusedVariables false
set_option maxRecDepth 100000

theorem len_le_of_val {A B : List Nat} (ha : ok A) (cb : canon B) (h : val B ≤ val A) : B.length ≤ A.length := by
  rcases Nat.lt_or_ge A.length B.length with h1 | h1
  · have := val_len_lt ha cb h1; omega
  · exact h1

set_option maxHeartbeats 3200000 in
theorem addSigned_any (w : World) (na : Bool) (ao : Option Addr) (ca : Nat) (A : List Nat) (nb : Bool) (bo : Option Addr) (cb : Nat) (B : List Nat) (ha : SlAt w ao ca A) (hb : SlAt w bo cb B) (hca : canon A) (hcb : canon B) (hN : A.length ≤ 1000000) (hM : B.length ≤ 1000000) :
    Calls Tryz.prog 54 #[.bool na, .slice ao A.length ca, .bool nb, .slice bo B.length cb] w (Told w.heap.size (A.length + B.length + 1) (sgn na (val A) + sgn nb (val B)) w) := by
  by_cases hn : na = nb
  · subst hn
    have hnn : (na == na) = true := by simp
    have HZ : Hid (sgn na (val A) + sgn na (val B) = sgn na (val A + val B)) := hid (by cases na <;> simp [sgn] <;> omega)
    go_enter Tryz.func54, Tryz.ntmps54
    go_wp2_with fail
    refine (addLimbs_any _ ao ca A bo cb B (by exact ha.below (by repeat (first | exact Below.refl _ _ | refine Below.alloc ?_ ?_ _ | refine Below.setCell ?_ ?_ _ | refine Below.drew ?_ | refine below_drewN ?_ _ | (· simp) | omega | (· simp; omega) | exact Below.size (by assumption) | assumption | refine below_call ?_ (by assumption) ?_))) (by exact hb.below (by repeat (first | exact Below.refl _ _ | refine Below.alloc ?_ ?_ _ | refine Below.setCell ?_ ?_ _ | refine Below.drew ?_ | refine below_drewN ?_ _ | (· simp) | omega | (· simp; omega) | exact Below.size (by assumption) | assumption | refine below_call ?_ (by assumption) ?_))) hN hM).mono ?_
    rintro e w2 ⟨g, cap, k, l, rfl, HK, hs, hg, hl, hv, hb2⟩
    have bx0 := (Box.new w (.bool false) (.slice none 0 0) w.heap.size rfl).keep hb2
    have hW2 : Below w.heap.size w w2 := (by repeat (first | exact Below.refl _ _ | refine Below.alloc ?_ ?_ _ | refine Below.setCell ?_ ?_ _ | refine Below.drew ?_ | refine below_drewN ?_ _ | (· simp) | omega | (· simp; omega) | exact Below.size (by assumption) | assumption | refine below_call ?_ (by assumption) ?_))
    have hz2 := hb2.size
    simp at hz2 hg
    have HV := hid hv
    clear hv hb2
    go_wp2_with fail
    refine (made_k _ (w.heap.size + 1) _ _ cap k l HK.out hs (from_row _ _ _ hg)).mono ?_
    rw [HV.out]
    rintro e w5 ⟨nr, ar, kr, cr, rfl, HI, hb5⟩
    have hW5 := below_call hW2 hb5 (by omega)
    have bx := bx0.keep hb5
    have x0 := bx.c0
    have x1 := bx.c1
    have xf := bx.f
    clear bx hb5
    go_wp2
    refine bodyPost_ret (v := .agg #[.bool nr, .slice ar kr cr]) ?_ rfl ⟨nr, ar, kr, cr, rfl, ?_, (by repeat (first | exact Below.refl _ _ | refine Below.alloc ?_ ?_ _ | refine Below.setCell ?_ ?_ _ | refine Below.drew ?_ | refine below_drewN ?_ _ | (· simp) | omega | (· simp; omega) | exact Below.size (by assumption) | assumption | refine below_call ?_ (by assumption) ?_))⟩
    · simp [results, Tryz.results54, go_sem, x0, x1]
    · rw [HZ.out]
      exact ((HI.out.setCell (by simp) _).setCell (by simp) _).mono (by omega) (by omega)
  · have HZ0 : Hid (sgn na (val A) + sgn nb (val B) = if val A < val B then sgn nb (val B - val A) else sgn na (val A - val B)) := hid (by
      by_cases h : val A < val B
      · rw [if_pos h]; cases na <;> cases nb <;> simp [sgn] at hn ⊢ <;> omega
      · rw [if_neg h]; cases na <;> cases nb <;> simp [sgn] at hn ⊢ <;> omega)
    have hnn : (na == nb) = false := by simpa using hn
    by_cases hv0 : val A < val B
    · have HZ : Hid (sgn na (val A) + sgn nb (val B) = sgn nb (val B - val A)) := hid (by rw [HZ0.out, if_pos hv0])
      have HV0 := hid hv0
      have HC := hid (cmpI_lt (show (val A : Int) < (val B : Int) by omega))
      clear hv0 HZ0 hn
      go_enter Tryz.func54, Tryz.ntmps54
      go_wp2_with fail
      refine (cmpLimbs_any _ ao ca A bo cb B (by exact ha.below (by repeat (first | exact Below.refl _ _ | refine Below.alloc ?_ ?_ _ | refine Below.setCell ?_ ?_ _ | refine Below.drew ?_ | refine below_drewN ?_ _ | (· simp) | omega | (· simp; omega) | exact Below.size (by assumption) | assumption | refine below_call ?_ (by assumption) ?_))) (by exact hb.below (by repeat (first | exact Below.refl _ _ | refine Below.alloc ?_ ?_ _ | refine Below.setCell ?_ ?_ _ | refine Below.drew ?_ | refine below_drewN ?_ _ | (· simp) | omega | (· simp; omega) | exact Below.size (by assumption) | assumption | refine below_call ?_ (by assumption) ?_))) hca hcb).mono ?_
      rintro e w1 ⟨rfl, hb1⟩
      rw [HC.out]
      have bx1 := (Box.new w (.bool false) (.slice none 0 0) w.heap.size rfl).keep hb1
      have hW1 : Below w.heap.size w w1 := (by repeat (first | exact Below.refl _ _ | refine Below.alloc ?_ ?_ _ | refine Below.setCell ?_ ?_ _ | refine Below.drew ?_ | refine below_drewN ?_ _ | (· simp) | omega | (· simp; omega) | exact Below.size (by assumption) | assumption | refine below_call ?_ (by assumption) ?_))
      have hz1 := hb1.size
      simp at hz1
      clear hb1
      go_wp2_with fail
      refine (subLimbs_any _ bo cb B ao ca A (by exact hb.below hW1) (by exact ha.below hW1) hM (len_le_of_val hb.1 hca (by have := HV0.out; omega)) (by have := HV0.out; omega)).mono ?_
      rintro e w2 ⟨g, cap, k, l, rfl, HK, hs, hg, hl, hv, hb2⟩
      have bx0 := bx1.keep hb2
      have hz2 := hb2.size
      have hW2 := below_call hW1 hb2 (by omega)
      have HV := hid hv
      have hg' : w.heap.size + 1 ≤ g := by omega
      clear hv hb2 bx1 hW1
      go_wp2_with fail
      refine (made_k _ (w.heap.size + 1) _ _ cap k l HK.out hs (from_row _ _ _ hg')).mono ?_
      rw [HV.out]
      rintro e w5 ⟨nr, ar, kr, cr, rfl, HI, hb5⟩
      have hW5 := below_call hW2 hb5 (by omega)
      have bx := bx0.keep hb5
      have x0 := bx.c0
      have x1 := bx.c1
      have xf := bx.f
      clear bx hb5
      go_wp2
      refine bodyPost_ret (v := .agg #[.bool nr, .slice ar kr cr]) ?_ rfl ⟨nr, ar, kr, cr, rfl, ?_, (by repeat (first | exact Below.refl _ _ | refine Below.alloc ?_ ?_ _ | refine Below.setCell ?_ ?_ _ | refine Below.drew ?_ | refine below_drewN ?_ _ | (· simp) | omega | (· simp; omega) | exact Below.size (by assumption) | assumption | refine below_call ?_ (by assumption) ?_))⟩
      · simp [results, Tryz.results54, go_sem, x0, x1]
      · rw [HZ.out]
        exact ((HI.out.setCell (by simp) _).setCell (by simp) _).mono (by omega) (by omega)
    · have HZ : Hid (sgn na (val A) + sgn nb (val B) = sgn na (val A - val B)) := hid (by rw [HZ0.out, if_neg hv0])
      have HV0 := hid hv0
      have hcp : 0 ≤ cmpI (val A : Int) (val B : Int) := by unfold cmpI; rw [if_neg (by omega)]; split <;> omega
      obtain ⟨q, hq⟩ : ∃ q, q = cmpI (val A : Int) (val B : Int) := ⟨_, rfl⟩
      rw [← hq] at hcp
      have HQ := hid hq
      clear hv0 HZ0 hn hq
      go_enter Tryz.func54, Tryz.ntmps54
      go_wp2_with fail
      refine (cmpLimbs_any _ ao ca A bo cb B (by exact ha.below (by repeat (first | exact Below.refl _ _ | refine Below.alloc ?_ ?_ _ | refine Below.setCell ?_ ?_ _ | refine Below.drew ?_ | refine below_drewN ?_ _ | (· simp) | omega | (· simp; omega) | exact Below.size (by assumption) | assumption | refine below_call ?_ (by assumption) ?_))) (by exact hb.below (by repeat (first | exact Below.refl _ _ | refine Below.alloc ?_ ?_ _ | refine Below.setCell ?_ ?_ _ | refine Below.drew ?_ | refine below_drewN ?_ _ | (· simp) | omega | (· simp; omega) | exact Below.size (by assumption) | assumption | refine below_call ?_ (by assumption) ?_))) hca hcb).mono ?_
      rintro e w1 ⟨rfl, hb1⟩
      rw [← HQ.out]
      have bx1 := (Box.new w (.bool false) (.slice none 0 0) w.heap.size rfl).keep hb1
      have hW1 : Below w.heap.size w w1 := (by repeat (first | exact Below.refl _ _ | refine Below.alloc ?_ ?_ _ | refine Below.setCell ?_ ?_ _ | refine Below.drew ?_ | refine below_drewN ?_ _ | (· simp) | omega | (· simp; omega) | exact Below.size (by assumption) | assumption | refine below_call ?_ (by assumption) ?_))
      have hz1 := hb1.size
      simp at hz1
      clear hb1
      go_wp2_with fail
      refine (subLimbs_any _ ao ca A bo cb B (by exact ha.below hW1) (by exact hb.below hW1) hN (len_le_of_val ha.1 hcb (by have := HV0.out; omega)) (by have := HV0.out; omega)).mono ?_
      rintro e w2 ⟨g, cap, k, l, rfl, HK, hs, hg, hl, hv, hb2⟩
      have bx0 := bx1.keep hb2
      have hz2 := hb2.size
      have hW2 := below_call hW1 hb2 (by omega)
      have HV := hid hv
      have hg' : w.heap.size + 1 ≤ g := by omega
      clear hv hb2 bx1 hW1
      go_wp2_with fail
      refine (made_k _ (w.heap.size + 1) _ _ cap k l HK.out hs (from_row _ _ _ hg')).mono ?_
      rw [HV.out]
      rintro e w5 ⟨nr, ar, kr, cr, rfl, HI, hb5⟩
      have hW5 := below_call hW2 hb5 (by omega)
      have bx := bx0.keep hb5
      have x0 := bx.c0
      have x1 := bx.c1
      have xf := bx.f
      clear bx hb5
      go_wp2
      refine bodyPost_ret (v := .agg #[.bool nr, .slice ar kr cr]) ?_ rfl ⟨nr, ar, kr, cr, rfl, ?_, (by repeat (first | exact Below.refl _ _ | refine Below.alloc ?_ ?_ _ | refine Below.setCell ?_ ?_ _ | refine Below.drew ?_ | refine below_drewN ?_ _ | (· simp) | omega | (· simp; omega) | exact Below.size (by assumption) | assumption | refine below_call ?_ (by assumption) ?_))⟩
      · simp [results, Tryz.results54, go_sem, x0, x1]
      · rw [HZ.out]
        exact ((HI.out.setCell (by simp) _).setCell (by simp) _).mono (by omega) (by omega)

/-- What Add, Sub, Mul have laid. -/
def Laid3 (w : World) (n1 : Bool) (s1 : Value) (n2 : Bool) (s2 : Value) : World :=
  ((w.alloc (.cells #[.bool n1, s1] 24)).alloc (.cells #[.bool n2, s2] 24)).alloc (.cells #[.bool false, .slice none 0 0] 24)
theorem laid3 (w : World) (n1 : Bool) (s1 : Value) (n2 : Bool) (s2 : Value) : (Laid3 w n1 s1 n2 s2).heap.size = w.heap.size + 3 ∧ Box (Laid3 w n1 s1 n2 s2) w.heap.size (.bool n1) s1 ∧ Box (Laid3 w n1 s1 n2 s2) (w.heap.size + 1) (.bool n2) s2 ∧
    (∀ b, w.heap.size + 1 < b → b < w.heap.size + 3 → Box (Laid3 w n1 s1 n2 s2) b (.bool false) (.slice none 0 0)) ∧ Below w.heap.size w (Laid3 w n1 s1 n2 s2) := by
  unfold Laid3
  refine ⟨by simp, ?_, ?_, fun b h1 h2 => ?_, (by repeat (first | exact Below.refl _ _ | refine Below.alloc ?_ ?_ _ | refine Below.setCell ?_ ?_ _ | refine Below.drew ?_ | refine below_drewN ?_ _ | (· simp) | omega | (· simp; omega) | exact Below.size (by assumption) | assumption | refine below_call ?_ (by assumption) ?_))⟩
  · exact ((Box.new w _ _ _ rfl).alloc _).alloc _
  · exact (Box.new _ _ _ _ (by simp)).alloc _
  · rcases (show b = w.heap.size + 2 by omega) with rfl
    exact Box.new _ _ _ _ (by simp)
/-- What Cmp has laid. -/
def Laid2 (w : World) (n1 : Bool) (s1 : Value) (n2 : Bool) (s2 : Value) : World :=
  (w.alloc (.cells #[.bool n1, s1] 24)).alloc (.cells #[.bool n2, s2] 24)
theorem laid2 (w : World) (n1 : Bool) (s1 : Value) (n2 : Bool) (s2 : Value) : (Laid2 w n1 s1 n2 s2).heap.size = w.heap.size + 2 ∧ Box (Laid2 w n1 s1 n2 s2) w.heap.size (.bool n1) s1 ∧ Box (Laid2 w n1 s1 n2 s2) (w.heap.size + 1) (.bool n2) s2 ∧
    (∀ b, w.heap.size + 1 < b → b < w.heap.size + 2 → Box (Laid2 w n1 s1 n2 s2) b (.bool false) (.slice none 0 0)) ∧ Below w.heap.size w (Laid2 w n1 s1 n2 s2) := by
  unfold Laid2
  refine ⟨by simp, ?_, ?_, fun b h1 h2 => by omega, (by repeat (first | exact Below.refl _ _ | refine Below.alloc ?_ ?_ _ | refine Below.setCell ?_ ?_ _ | refine Below.drew ?_ | refine below_drewN ?_ _ | (· simp) | omega | (· simp; omega) | exact Below.size (by assumption) | assumption | refine below_call ?_ (by assumption) ?_))⟩
  · exact (Box.new w _ _ _ rfl).alloc _
  · exact Box.new _ _ _ _ (by simp)

end Go.Proofs.YtogdchddmjokmaaGreatDoor
