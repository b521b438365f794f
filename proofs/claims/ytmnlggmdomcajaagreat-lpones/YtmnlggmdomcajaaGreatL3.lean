/-
  Walks: whether something is so of each quotient of a row; signs.
-/
import Derived.Test.YtmnlggmdomcajaaGreatL2
import Derived.Test.YtmnlggmdomcajaaGreatVD
namespace Go.Proofs.YtmnlggmdomcajaaGreat
open Go.RowKit Lm
set_option linter.unusedSimpArgs false
set_option linter.unusedVariables false
set_option maxRecDepth 100000

/-- It is so of the first k. -/
def allB (P : Nat → Bool) : Nat → Bool
  | 0 => true
  | k + 1 => allB P k && P k
theorem allB_iff (P : Nat → Bool) (k : Nat) : allB P k = true ↔ ∀ i, i < k → P i = true := by
  induction k with
  | zero => simp [allB]
  | succ k ih =>
    rw [allB, Bool.and_eq_true, ih]
    constructor
    · rintro ⟨h1, h2⟩ i hi
      by_cases h : i = k
      · subst h; exact h2
      · exact h1 i (by omega)
    · intro h
      exact ⟨fun i hi => h i (by omega), h k (by omega)⟩
theorem allB_no {P : Nat → Bool} {i k : Nat} (h : i < k) (hP : P i = false) : allB P k = false := by
  cases hx : allB P k with
  | false => rfl
  | true =>
    have := (allB_iff P k).1 hx i h
    rw [hP] at this
    simp at this

set_option maxHeartbeats 1600000 in
theorem each_within (w : World) (ao : Option Addr) (cap k n : Nat) (R : List Rat) (g : Nat) (P : Nat → Bool) (hk : k = R.length) (hA : QSl w (.slice ao k cap) n R)
    (hf : ∀ i (h : i < R.length) (W : World) (x : Value), Below w.heap.size w W → RArg W x n R[i] → Calls Tryz.prog 60 #[.int .i64 (i : Int), x, .pointer (some ⟨g, 0, none⟩)] W (fun e w' => e = .returned (.bool (P i)) ∧ Below W.heap.size W w')) :
    Calls Tryz.prog 59 #[.slice ao k cap, .func (.func 60) #[] #[.pointer (some ⟨g, 0, none⟩)]] w fun e w' => e = .returned (.bool (allB P k)) ∧ Below w.heap.size w w' := by
  have hk64 : k ≤ 9223372036854775807 := hA.len.2
  have HA := hid hA
  have HK := hid hk
  have HF := hid hf
  clear hA hk hf
  go_enter Tryz.func59, Tryz.ntmps59
  go_wp2
  go_loopw [9] (fun iv wr => ∃ i : Nat, i ≤ k ∧ iv = .int .i64 i ∧ allB P i = true ∧ Below w.heap.size w wr) (fun iv wr => k - (intOf iv).toNat)
  case atStart => exact ⟨0, Nat.zero_le _, rfl, rfl, Below.refl _ _⟩
  case round =>
    obtain ⟨i, hik, rfl, hall, HBW⟩ := hrel
    have HALL := hid hall
    clear hall
    by_cases hlt : i < k
    · have hi' : i < R.length := by rw [← HK.out]; exact hlt
      obtain ⟨b1, o1, rfl, l1, hc⟩ := HA.out.cellsAt (by omega)
      obtain ⟨n1, a1, k1, c1, n2, a2, k2, c2, hC, hX⟩ := hc i hi'
      obtain ⟨p1, p2, p3, p4⟩ := hC.below l1 HBW
      have hBa := HBW.alloc HBW.size (.cells #[.bool n1, .slice a1 k1 c1, .bool n2, .slice a2 k2 c2] 26)
      have HX := hid (hX.below hBa)
      clear hc hX hC
      go_wp2_with fail
      refine (HF.out i hi' _ _ hBa HX.out).mono ?_
      rintro e w2 ⟨rfl, hb2⟩
      have HB2 := hid (below_call hBa hb2 hBa.size)
      clear hb2 hBa HBW HX
      cases hP : P i
      · have HN : Hid (allB P k = false) := hid (allB_no hlt hP)
        clear hP
        go_wp2
        go_ret
        exact ⟨ret_bool HN.out.symm, HB2.out⟩
      · have HN : Hid (allB P (i + 1) = true) := hid (by rw [allB, HALL.out, hP]; rfl)
        clear hP
        go_wp2
        go_roundw
        case rel => exact ⟨i + 1, by omega, by go_num, HN.out, HB2.out⟩
        case measure => simp [intOf]; omega
    · have hke : i = k := by omega
      subst hke
      have HB := hid HBW
      clear HBW
      go_wp2
      go_ret
      exact ⟨ret_bool HALL.out.symm, HB.out⟩

set_option maxHeartbeats 1600000 in
theorem each_fit (w : World) (ao : Option Addr) (cap k n : Nat) (R : List Rat) (P : Nat → Bool) (hk : k = R.length) (hA : QSl w (.slice ao k cap) n R)
    (hf : ∀ i (h : i < R.length) (W : World) (x : Value), Below w.heap.size w W → RArg W x n R[i] → Calls Tryz.prog 108 #[.int .i64 (i : Int), x] W (fun e w' => e = .returned (.bool (P i)) ∧ Below W.heap.size W w')) :
    Calls Tryz.prog 59 #[.slice ao k cap, .func (.func 108) #[] #[]] w fun e w' => e = .returned (.bool (allB P k)) ∧ Below w.heap.size w w' := by
  have hk64 : k ≤ 9223372036854775807 := hA.len.2
  have HA := hid hA
  have HK := hid hk
  have HF := hid hf
  clear hA hk hf
  go_enter Tryz.func59, Tryz.ntmps59
  go_wp2
  go_loopw [9] (fun iv wr => ∃ i : Nat, i ≤ k ∧ iv = .int .i64 i ∧ allB P i = true ∧ Below w.heap.size w wr) (fun iv wr => k - (intOf iv).toNat)
  case atStart => exact ⟨0, Nat.zero_le _, rfl, rfl, Below.refl _ _⟩
  case round =>
    obtain ⟨i, hik, rfl, hall, HBW⟩ := hrel
    have HALL := hid hall
    clear hall
    by_cases hlt : i < k
    · have hi' : i < R.length := by rw [← HK.out]; exact hlt
      obtain ⟨b1, o1, rfl, l1, hc⟩ := HA.out.cellsAt (by omega)
      obtain ⟨n1, a1, k1, c1, n2, a2, k2, c2, hC, hX⟩ := hc i hi'
      obtain ⟨p1, p2, p3, p4⟩ := hC.below l1 HBW
      have hBa := HBW.alloc HBW.size (.cells #[.bool n1, .slice a1 k1 c1, .bool n2, .slice a2 k2 c2] 26)
      have HX := hid (hX.below hBa)
      clear hc hX hC
      go_wp2_with fail
      refine (HF.out i hi' _ _ hBa HX.out).mono ?_
      rintro e w2 ⟨rfl, hb2⟩
      have HB2 := hid (below_call hBa hb2 hBa.size)
      clear hb2 hBa HBW HX
      cases hP : P i
      · have HN : Hid (allB P k = false) := hid (allB_no hlt hP)
        clear hP
        go_wp2
        go_ret
        exact ⟨ret_bool HN.out.symm, HB2.out⟩
      · have HN : Hid (allB P (i + 1) = true) := hid (by rw [allB, HALL.out, hP]; rfl)
        clear hP
        go_wp2
        go_roundw
        case rel => exact ⟨i + 1, by omega, by go_num, HN.out, HB2.out⟩
        case measure => simp [intOf]; omega
    · have hke : i = k := by omega
      subst hke
      have HB := hid HBW
      clear HBW
      go_wp2
      go_ret
      exact ⟨ret_bool HALL.out.symm, HB.out⟩

set_option maxHeartbeats 1600000 in
theorem each_makeC (w : World) (ao : Option Addr) (cap k n : Nat) (R : List Rat) (g : Nat) (P : Nat → Bool) (hk : k = R.length) (hA : QSl w (.slice ao k cap) n R)
    (hf : ∀ i (h : i < R.length) (W : World) (x : Value), Below w.heap.size w W → RArg W x n R[i] → Calls Tryz.prog 111 #[.int .i64 (i : Int), x, .pointer (some ⟨g, 0, none⟩)] W (fun e w' => e = .returned (.bool (P i)) ∧ Below W.heap.size W w')) :
    Calls Tryz.prog 59 #[.slice ao k cap, .func (.func 111) #[] #[.pointer (some ⟨g, 0, none⟩)]] w fun e w' => e = .returned (.bool (allB P k)) ∧ Below w.heap.size w w' := by
  have hk64 : k ≤ 9223372036854775807 := hA.len.2
  have HA := hid hA
  have HK := hid hk
  have HF := hid hf
  clear hA hk hf
  go_enter Tryz.func59, Tryz.ntmps59
  go_wp2
  go_loopw [9] (fun iv wr => ∃ i : Nat, i ≤ k ∧ iv = .int .i64 i ∧ allB P i = true ∧ Below w.heap.size w wr) (fun iv wr => k - (intOf iv).toNat)
  case atStart => exact ⟨0, Nat.zero_le _, rfl, rfl, Below.refl _ _⟩
  case round =>
    obtain ⟨i, hik, rfl, hall, HBW⟩ := hrel
    have HALL := hid hall
    clear hall
    by_cases hlt : i < k
    · have hi' : i < R.length := by rw [← HK.out]; exact hlt
      obtain ⟨b1, o1, rfl, l1, hc⟩ := HA.out.cellsAt (by omega)
      obtain ⟨n1, a1, k1, c1, n2, a2, k2, c2, hC, hX⟩ := hc i hi'
      obtain ⟨p1, p2, p3, p4⟩ := hC.below l1 HBW
      have hBa := HBW.alloc HBW.size (.cells #[.bool n1, .slice a1 k1 c1, .bool n2, .slice a2 k2 c2] 26)
      have HX := hid (hX.below hBa)
      clear hc hX hC
      go_wp2_with fail
      refine (HF.out i hi' _ _ hBa HX.out).mono ?_
      rintro e w2 ⟨rfl, hb2⟩
      have HB2 := hid (below_call hBa hb2 hBa.size)
      clear hb2 hBa HBW HX
      cases hP : P i
      · have HN : Hid (allB P k = false) := hid (allB_no hlt hP)
        clear hP
        go_wp2
        go_ret
        exact ⟨ret_bool HN.out.symm, HB2.out⟩
      · have HN : Hid (allB P (i + 1) = true) := hid (by rw [allB, HALL.out, hP]; rfl)
        clear hP
        go_wp2
        go_roundw
        case rel => exact ⟨i + 1, by omega, by go_num, HN.out, HB2.out⟩
        case measure => simp [intOf]; omega
    · have hke : i = k := by omega
      subst hke
      have HB := hid HBW
      clear HBW
      go_wp2
      go_ret
      exact ⟨ret_bool HALL.out.symm, HB.out⟩

set_option maxHeartbeats 1600000 in
theorem each_makeN (w : World) (ao : Option Addr) (cap k n : Nat) (R : List Rat) (P : Nat → Bool) (hk : k = R.length) (hA : QSl w (.slice ao k cap) n R)
    (hf : ∀ i (h : i < R.length) (W : World) (x : Value), Below w.heap.size w W → RArg W x n R[i] → Calls Tryz.prog 113 #[.int .i64 (i : Int), x] W (fun e w' => e = .returned (.bool (P i)) ∧ Below W.heap.size W w')) :
    Calls Tryz.prog 59 #[.slice ao k cap, .func (.func 113) #[] #[]] w fun e w' => e = .returned (.bool (allB P k)) ∧ Below w.heap.size w w' := by
  have hk64 : k ≤ 9223372036854775807 := hA.len.2
  have HA := hid hA
  have HK := hid hk
  have HF := hid hf
  clear hA hk hf
  go_enter Tryz.func59, Tryz.ntmps59
  go_wp2
  go_loopw [9] (fun iv wr => ∃ i : Nat, i ≤ k ∧ iv = .int .i64 i ∧ allB P i = true ∧ Below w.heap.size w wr) (fun iv wr => k - (intOf iv).toNat)
  case atStart => exact ⟨0, Nat.zero_le _, rfl, rfl, Below.refl _ _⟩
  case round =>
    obtain ⟨i, hik, rfl, hall, HBW⟩ := hrel
    have HALL := hid hall
    clear hall
    by_cases hlt : i < k
    · have hi' : i < R.length := by rw [← HK.out]; exact hlt
      obtain ⟨b1, o1, rfl, l1, hc⟩ := HA.out.cellsAt (by omega)
      obtain ⟨n1, a1, k1, c1, n2, a2, k2, c2, hC, hX⟩ := hc i hi'
      obtain ⟨p1, p2, p3, p4⟩ := hC.below l1 HBW
      have hBa := HBW.alloc HBW.size (.cells #[.bool n1, .slice a1 k1 c1, .bool n2, .slice a2 k2 c2] 26)
      have HX := hid (hX.below hBa)
      clear hc hX hC
      go_wp2_with fail
      refine (HF.out i hi' _ _ hBa HX.out).mono ?_
      rintro e w2 ⟨rfl, hb2⟩
      have HB2 := hid (below_call hBa hb2 hBa.size)
      clear hb2 hBa HBW HX
      cases hP : P i
      · have HN : Hid (allB P k = false) := hid (allB_no hlt hP)
        clear hP
        go_wp2
        go_ret
        exact ⟨ret_bool HN.out.symm, HB2.out⟩
      · have HN : Hid (allB P (i + 1) = true) := hid (by rw [allB, HALL.out, hP]; rfl)
        clear hP
        go_wp2
        go_roundw
        case rel => exact ⟨i + 1, by omega, by go_num, HN.out, HB2.out⟩
        case measure => simp [intOf]; omega
    · have hke : i = k := by omega
      subst hke
      have HB := hid HBW
      clear HBW
      go_wp2
      go_ret
      exact ⟨ret_bool HALL.out.symm, HB.out⟩

set_option maxHeartbeats 1600000 in
theorem each_ray (w : World) (ao : Option Addr) (cap k n : Nat) (R : List Rat) (P : Nat → Bool) (hk : k = R.length) (hA : QSl w (.slice ao k cap) n R)
    (hf : ∀ i (h : i < R.length) (W : World) (x : Value), Below w.heap.size w W → RArg W x n R[i] → Calls Tryz.prog 114 #[.int .i64 (i : Int), x] W (fun e w' => e = .returned (.bool (P i)) ∧ Below W.heap.size W w')) :
    Calls Tryz.prog 59 #[.slice ao k cap, .func (.func 114) #[] #[]] w fun e w' => e = .returned (.bool (allB P k)) ∧ Below w.heap.size w w' := by
  have hk64 : k ≤ 9223372036854775807 := hA.len.2
  have HA := hid hA
  have HK := hid hk
  have HF := hid hf
  clear hA hk hf
  go_enter Tryz.func59, Tryz.ntmps59
  go_wp2
  go_loopw [9] (fun iv wr => ∃ i : Nat, i ≤ k ∧ iv = .int .i64 i ∧ allB P i = true ∧ Below w.heap.size w wr) (fun iv wr => k - (intOf iv).toNat)
  case atStart => exact ⟨0, Nat.zero_le _, rfl, rfl, Below.refl _ _⟩
  case round =>
    obtain ⟨i, hik, rfl, hall, HBW⟩ := hrel
    have HALL := hid hall
    clear hall
    by_cases hlt : i < k
    · have hi' : i < R.length := by rw [← HK.out]; exact hlt
      obtain ⟨b1, o1, rfl, l1, hc⟩ := HA.out.cellsAt (by omega)
      obtain ⟨n1, a1, k1, c1, n2, a2, k2, c2, hC, hX⟩ := hc i hi'
      obtain ⟨p1, p2, p3, p4⟩ := hC.below l1 HBW
      have hBa := HBW.alloc HBW.size (.cells #[.bool n1, .slice a1 k1 c1, .bool n2, .slice a2 k2 c2] 26)
      have HX := hid (hX.below hBa)
      clear hc hX hC
      go_wp2_with fail
      refine (HF.out i hi' _ _ hBa HX.out).mono ?_
      rintro e w2 ⟨rfl, hb2⟩
      have HB2 := hid (below_call hBa hb2 hBa.size)
      clear hb2 hBa HBW HX
      cases hP : P i
      · have HN : Hid (allB P k = false) := hid (allB_no hlt hP)
        clear hP
        go_wp2
        go_ret
        exact ⟨ret_bool HN.out.symm, HB2.out⟩
      · have HN : Hid (allB P (i + 1) = true) := hid (by rw [allB, HALL.out, hP]; rfl)
        clear hP
        go_wp2
        go_roundw
        case rel => exact ⟨i + 1, by omega, by go_num, HN.out, HB2.out⟩
        case measure => simp [intOf]; omega
    · have hke : i = k := by omega
      subst hke
      have HB := hid HBW
      clear HBW
      go_wp2
      go_ret
      exact ⟨ret_bool HALL.out.symm, HB.out⟩

end Go.Proofs.YtmnlggmdomcajaaGreat
