/-
  Walks: the order of limbs; sums of two signs.
-/
import Derived.Test.YtalblhcfkfockaaW13
namespace Go.Proofs.Ytalblhcfkfockaa
open Go.RowKit Lm
set_option linter.unusedSimpArgs false
set_option linter.unusedVariables false
set_option maxRecDepth 100000

theorem cmp_lt {A B : List Nat} {k : Nat} (hok : ok A) (hl : A.length = B.length) (hk : k < A.length) (hd : A.drop (k + 1) = B.drop (k + 1)) (h : A.getD k 0 < B.getD k 0) : val A < val B := by
  have e1 : val A = val (A.take k) + pw k * val (A.drop k) := by
    conv => lhs; rw [← List.take_append_drop k A, val_append]
    rw [show (A.take k).length = k by simp; omega]
  have e2 : val B = val (B.take k) + pw k * val (B.drop k) := by
    conv => lhs; rw [← List.take_append_drop k B, val_append]
    rw [show (B.take k).length = k by simp; omega]
  have h1 := val_lt (ok_take hok k)
  rw [show (A.take k).length = k by simp; omega] at h1
  have h2 : val (A.drop k) + 1 ≤ val (B.drop k) := by
    rw [drop_val A k hk, drop_val B k (by omega), hd]
    omega
  have h3 : pw k * (val (A.drop k) + 1) ≤ pw k * val (B.drop k) := Nat.mul_le_mul_left _ h2
  rw [Nat.mul_add] at h3
  omega
theorem cmpI_lt {x y : Int} (h : x < y) : cmpI x y = -1 := by unfold cmpI; rw [if_pos h]
theorem cmpI_gt {x y : Int} (h : y < x) : cmpI x y = 1 := by unfold cmpI; rw [if_neg (by omega), if_pos h]
theorem cmpI_eq {x y : Int} (h : x = y) : cmpI x y = 0 := by unfold cmpI; rw [if_neg (by omega), if_neg (by omega)]
theorem cmp_len {A B : List Nat} (oa : ok A) (ob : ok B) (ca : canon A) (cb : canon B) (h : A.length ≠ B.length) : cmpI (A.length : Int) (B.length : Int) = cmpI (val A : Int) (val B : Int) := by
  by_cases h1 : A.length < B.length
  · have := val_len_lt oa cb h1
    rw [cmpI_lt (by omega), cmpI_lt (by omega)]
  · have := val_len_lt ob ca (show B.length < A.length by omega)
    rw [cmpI_gt (by omega), cmpI_gt (by omega)]
theorem cmp_top {A B : List Nat} {k : Nat} (oa : ok A) (ob : ok B) (hl : A.length = B.length) (hk : k < A.length) (hd : A.drop (k + 1) = B.drop (k + 1)) (h : A.getD k 0 ≠ B.getD k 0) : cmpI (A.getD k 0 : Int) (B.getD k 0 : Int) = cmpI (val A : Int) (val B : Int) := by
  by_cases h1 : A.getD k 0 < B.getD k 0
  · have := cmp_lt oa hl hk hd h1
    rw [cmpI_lt (by omega), cmpI_lt (by omega)]
  · have := cmp_lt ob hl.symm (by omega) hd.symm (show B.getD k 0 < A.getD k 0 by omega)
    rw [cmpI_gt (by omega), cmpI_gt (by omega)]
theorem drop_pred {A B : List Nat} {k : Nat} (hk0 : 0 < k) (hkA : k ≤ A.length) (hkB : k ≤ B.length) (hd : A.drop k = B.drop k) (h : A.getD (k - 1) 0 = B.getD (k - 1) 0) : A.drop (k - 1) = B.drop (k - 1) := by
  rw [List.drop_eq_getElem_cons (show k - 1 < A.length by omega), List.drop_eq_getElem_cons (show k - 1 < B.length by omega), show k - 1 + 1 = k by omega, hd]
  simp only [List.getD_eq_getElem?_getD, List.getElem?_eq_getElem (show k - 1 < A.length by omega), List.getElem?_eq_getElem (show k - 1 < B.length by omega), Option.getD_some] at h
  rw [h]

set_option maxHeartbeats 1600000 in
theorem cmpLimbs_any (w : World) (ao : Option Addr) (ca : Nat) (A : List Nat) (bo : Option Addr) (cb : Nat) (B : List Nat) (ha : SlAt w ao ca A) (hb : SlAt w bo cb B) (hca : canon A) (hcb : canon B) :
    Calls Try.prog 64 #[.slice ao A.length ca, .slice bo B.length cb] w fun e w' => e = .returned (.int .i64 (cmpI (val A : Int) (val B : Int))) ∧ Below w.heap.size w w' := by
  have ha3 := ha.2.2.1
  have hb3 := hb.2.2.1
  unfold maxLen at ha3 hb3
  have hla := ha.2.1
  have hlb := hb.2.1
  by_cases hl : A.length = B.length
  · by_cases h0 : B.length = 0
    · have HE : Hid (cmpI (val A : Int) (val B : Int) = 0) := hid (cmpI_eq (by rw [List.eq_nil_of_length_eq_zero h0, List.eq_nil_of_length_eq_zero (hl.trans h0)]))
      rw [hl, h0]
      clear hl
      go_enter Try.func64, Try.ntmps64
      go_wp2
      go_loop [5] (fun i => i = .int .i64 (-1)) (fun i => 0)
      case atStart => rfl
      case round =>
        subst hrel
        go_wp2
        go_ret
        exact ⟨ret_int HE.out.symm, Below.refl _ _⟩
    · rcases ha.2.2.2 with ⟨_, _⟩ | ⟨b1, o1, rfl, hlt1, hc1⟩
      · omega
      rcases hb.2.2.2 with ⟨_, _⟩ | ⟨b2, o2, rfl, hlt2, hc2⟩
      · omega
      have HL := hid hl
      rw [hl] at hc1 ⊢
      clear hl hla
      go_enter Try.func64, Try.ntmps64
      go_wp2
      go_loopw [5] (fun i wr => ∃ k : Nat, k ≤ B.length ∧ i = .int .i64 ((k : Int) - 1) ∧ Hid (A.drop k = B.drop k) ∧ Below w.heap.size w wr) (fun i wr => (intOf i + 1).toNat)
      case atStart => exact ⟨B.length, Nat.le_refl _, rfl, by rw [Hid, List.drop_length, ← HL.out, List.drop_length], Below.refl _ _⟩
      case round =>
        obtain ⟨k, hk, rfl, HD, hbw⟩ := hrel
        by_cases hk0 : k = 0
        · subst hk0
          have HE : Hid (cmpI (val A : Int) (val B : Int) = 0) := hid (cmpI_eq (by have := HD.out; simp only [List.drop_zero] at this; rw [this]))
          go_wp2
          go_ret
          exact ⟨ret_int HE.out.symm, hbw⟩
        · have hx := (hbw.cell (p := ⟨b1, o1 + (k - 1), none⟩) hlt1).trans (hc1 (k - 1) (by omega))
          have hy := (hbw.cell (p := ⟨b2, o2 + (k - 1), none⟩) hlt2).trans (hc2 (k - 1) (by omega))
          have hk1 : (0 : Int) ≤ (k : Int) - 1 := by omega
          have hk2 : (k : Int) - 1 < (B.length : Int) := by omega
          obtain ⟨x, hxe⟩ : ∃ x, x = A.getD (k - 1) 0 := ⟨_, rfl⟩
          obtain ⟨y, hye⟩ : ∃ y, y = B.getD (k - 1) 0 := ⟨_, rfl⟩
          rw [← hxe] at hx
          rw [← hye] at hy
          have HX := hid hxe
          have HY := hid hye
          clear hxe hye hc1 hc2
          by_cases hne : x = y
          · have hne2 : ((x : Int) != (y : Int)) = false := by simp; omega
            have HDP := hid (drop_pred (A := A) (B := B) (by omega) (by rw [HL.out]; exact hk) hk HD.out (by rw [← HX.out, ← HY.out]; exact hne))
            clear hne
            go_wp2
            go_quiet (fail)
            go_wp2
            go_roundw
            case rel => exact ⟨k - 1, by omega, by go_num, HDP, (by repeat (first | exact Below.refl _ _ | refine Below.alloc ?_ ?_ _ | refine Below.setCell ?_ ?_ _ | refine Below.drew ?_ | refine below_drewN ?_ _ | (· simp) | omega | (· simp; omega) | exact Below.size (by assumption) | assumption | refine below_call ?_ (by assumption) ?_))⟩
            case measure => simp [intOf]; omega
          · have hne2 : ((x : Int) != (y : Int)) = true := by simp; omega
            have HC := hid (cmp_top (A := A) (B := B) (k := k - 1) ha.1 hb.1 HL.out (by rw [HL.out]; omega) (by rw [show k - 1 + 1 = k by omega]; exact HD.out) (by rw [← HX.out, ← HY.out]; exact hne))
            rw [← HX.out, ← HY.out] at HC
            clear hne
            go_wp2
            go_quiet (fail)
            go_wp2
            go_region_held3 (fun w' => w'.cell? ⟨b1, o1 + (k - 1), none⟩ = some (.int .u32 (x : Int)) ∧ w'.cell? ⟨b2, o2 + (k - 1), none⟩ = some (.int .u32 (y : Int))) (refine ⟨hx, hy⟩) (first | (go_at_call 84; go_must (refine (compare32 _ _ _).mono ?_); rintro e w' ⟨rfl, rfl⟩))
            go_wp2
            go_ret
            exact ⟨ret_int HC.out, (by repeat (first | exact Below.refl _ _ | refine Below.alloc ?_ ?_ _ | refine Below.setCell ?_ ?_ _ | refine Below.drew ?_ | refine below_drewN ?_ _ | (· simp) | omega | (· simp; omega) | exact Below.size (by assumption) | assumption | refine below_call ?_ (by assumption) ?_))⟩
  · have hl2 : ((A.length : Int) != (B.length : Int)) = true := by simp; omega
    have HC := hid (cmp_len ha.1 hb.1 hca hcb hl)
    go_enter Try.func64, Try.ntmps64
    go_wp2_with (go_at_call 28; refine (compareInt _ _ _).mono ?_; rintro e w' ⟨rfl, rfl⟩)
    go_ret
    exact ⟨ret_int HC.out, Below.refl _ _⟩

end Go.Proofs.Ytalblhcfkfockaa
