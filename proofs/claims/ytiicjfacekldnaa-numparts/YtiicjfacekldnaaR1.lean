/-
  Walks: the document's own order, sums and differences of limbs.
-/
import Derived.Test.YtiicjfacekldnaaW16
namespace Go.Proofs.Ytiicjfacekldnaa
open Go.RowKit Lm
set_option linter.unusedSimpArgs false
set_option linter.unusedVariables false
set_option maxRecDepth 100000

set_option maxHeartbeats 1600000 in
theorem rcmp_any (w : World) (ao : Option Addr) (ca : Nat) (A : List Nat) (bo : Option Addr) (cb : Nat) (B : List Nat) (ha : SlAt w ao ca A) (hb : SlAt w bo cb B) (hca : canon A) (hcb : canon B) :
    Calls Try.prog 108 #[.slice ao A.length ca, .slice bo B.length cb] w fun e w' => e = .returned (.int .i64 (cmpI (val A : Int) (val B : Int))) ∧ Below w.heap.size w w' := by
  have ha3 := ha.2.2.1
  have hb3 := hb.2.2.1
  unfold maxLen at ha3 hb3
  have hla := ha.2.1
  have hlb := hb.2.1
  by_cases hl : A.length = B.length
  · by_cases h0 : B.length = 0
    · have HE : Hid (cmpI (val A : Int) (val B : Int) = 0) := hid (cmpI_eq (by rw [List.eq_nil_of_length_eq_zero h0, List.eq_nil_of_length_eq_zero (hl.trans h0)]))
      rw [hl, h0]
      clear hl
      go_enter Try.func108, Try.ntmps108
      go_wp2
      go_loop [5] (fun i => i = .int .i64 (-1)) (fun i => 0)
      case atStart => rfl
      case round =>
        subst hrel
        go_wp2
        go_ret
        exact ⟨ret_int HE.out.symm, Below.refl _ _⟩
    · rcases ha.2.2.2 with ⟨_, _⟩ | ⟨b1, o1, rfl, hlt1, hc1⟩
      · omega
      rcases hb.2.2.2 with ⟨_, _⟩ | ⟨b2, o2, rfl, hlt2, hc2⟩
      · omega
      have HL := hid hl
      rw [hl] at hc1 ⊢
      clear hl hla
      go_enter Try.func108, Try.ntmps108
      go_wp2
      go_loopw [5] (fun i wr => ∃ k : Nat, k ≤ B.length ∧ i = .int .i64 ((k : Int) - 1) ∧ Hid (A.drop k = B.drop k) ∧ Below w.heap.size w wr) (fun i wr => (intOf i + 1).toNat)
      case atStart => exact ⟨B.length, Nat.le_refl _, rfl, by rw [Hid, List.drop_length, ← HL.out, List.drop_length], Below.refl _ _⟩
      case round =>
        obtain ⟨k, hk, rfl, HD, hbw⟩ := hrel
        by_cases hk0 : k = 0
        · subst hk0
          have HE : Hid (cmpI (val A : Int) (val B : Int) = 0) := hid (cmpI_eq (by have := HD.out; simp only [List.drop_zero] at this; rw [this]))
          go_wp2
          go_ret
          exact ⟨ret_int HE.out.symm, hbw⟩
        · have hx := (hbw.cell (p := ⟨b1, o1 + (k - 1), none⟩) hlt1).trans (hc1 (k - 1) (by omega))
          have hy := (hbw.cell (p := ⟨b2, o2 + (k - 1), none⟩) hlt2).trans (hc2 (k - 1) (by omega))
          have hk1 : (0 : Int) ≤ (k : Int) - 1 := by omega
          have hk2 : (k : Int) - 1 < (B.length : Int) := by omega
          obtain ⟨x, hxe⟩ : ∃ x, x = A.getD (k - 1) 0 := ⟨_, rfl⟩
          obtain ⟨y, hye⟩ : ∃ y, y = B.getD (k - 1) 0 := ⟨_, rfl⟩
          rw [← hxe] at hx
          rw [← hye] at hy
          have HX := hid hxe
          have HY := hid hye
          clear hxe hye hc1 hc2
          by_cases hlt : x < y
          · have hd1 : (x : Int) < (y : Int) := by omega
            have HC := hid (cmp_top (A := A) (B := B) (k := k - 1) ha.1 hb.1 HL.out (by rw [HL.out]; omega) (by rw [show k - 1 + 1 = k by omega]; exact HD.out) (by rw [← HX.out, ← HY.out]; omega))
            rw [← HX.out, ← HY.out, cmpI_lt hd1] at HC
            go_wp2
            go_quiet (fail)
            go_wp2
            go_ret
            exact ⟨ret_int HC.out, (by repeat (first | exact Below.refl _ _ | refine Below.alloc ?_ ?_ _ | refine Below.setCell ?_ ?_ _ | refine Below.drew ?_ | refine below_drewN ?_ _ | (· simp) | omega | (· simp; omega) | exact Below.size (by assumption) | assumption | refine below_call ?_ (by assumption) ?_))⟩
          · have hd1 : ¬ (x : Int) < (y : Int) := by omega
            by_cases hgt : y < x
            · have hd2 : (y : Int) < (x : Int) := by omega
              have HC := hid (cmp_top (A := A) (B := B) (k := k - 1) ha.1 hb.1 HL.out (by rw [HL.out]; omega) (by rw [show k - 1 + 1 = k by omega]; exact HD.out) (by rw [← HX.out, ← HY.out]; omega))
              rw [← HX.out, ← HY.out, cmpI_gt hd2] at HC
              go_wp2
              go_quiet (fail)
              go_wp2
              go_quiet (fail)
              go_wp2
              go_ret
              exact ⟨ret_int HC.out, (by repeat (first | exact Below.refl _ _ | refine Below.alloc ?_ ?_ _ | refine Below.setCell ?_ ?_ _ | refine Below.drew ?_ | refine below_drewN ?_ _ | (· simp) | omega | (· simp; omega) | exact Below.size (by assumption) | assumption | refine below_call ?_ (by assumption) ?_))⟩
            · have hd2 : ¬ (y : Int) < (x : Int) := by omega
              have HDP := hid (drop_pred (A := A) (B := B) (by omega) (by rw [HL.out]; exact hk) hk HD.out (by rw [← HX.out, ← HY.out]; omega))
              go_wp2
              go_quiet (fail)
              go_wp2
              go_quiet (fail)
              go_wp2
              go_roundw
              case rel => exact ⟨k - 1, by omega, by go_num, HDP, (by repeat (first | exact Below.refl _ _ | refine Below.alloc ?_ ?_ _ | refine Below.setCell ?_ ?_ _ | refine Below.drew ?_ | refine below_drewN ?_ _ | (· simp) | omega | (· simp; omega) | exact Below.size (by assumption) | assumption | refine below_call ?_ (by assumption) ?_))⟩
              case measure => simp [intOf]; omega
  · have hl2 : ((A.length : Int) != (B.length : Int)) = true := by simp; omega
    have HC := hid (cmp_len ha.1 hb.1 hca hcb hl)
    by_cases hlt : A.length < B.length
    · rw [cmpI_lt (x := (A.length : Int)) (by omega)] at HC
      go_enter Try.func108, Try.ntmps108
      go_wp2
      go_ret
      exact ⟨ret_int HC.out, Below.refl _ _⟩
    · rw [cmpI_gt (x := (A.length : Int)) (by omega)] at HC
      go_enter Try.func108, Try.ntmps108
      go_wp2
      go_ret
      exact ⟨ret_int HC.out, Below.refl _ _⟩

end Go.Proofs.Ytiicjfacekldnaa
