/-
  Looks, one after the other.
-/
import Derived.Test.YtmnlggmdomcajaaGreatL11
namespace Go.Proofs.YtmnlggmdomcajaaGreat
open Go.RowKit Lm
set_option linter.unusedSimpArgs false
set_option linter.unusedVariables false
set_option maxRecDepth 100000

set_option maxHeartbeats 1600000 in
theorem each_looks (w : World) (b cap k g g' : Nat) (F : Nat → Value) (P : Nat → Bool) (hk : k ≤ 100) (hb : b < w.heap.size) (hF : ∀ i, i < k → w.cell? ⟨b, i, none⟩ = some (F i))
    (hf : ∀ i, i < k → ∀ W, Below w.heap.size w W → Calls Tryz.prog 76 #[.int .i64 (i : Int), F i, .pointer (some ⟨g, 0, none⟩), .pointer (some ⟨g', 0, none⟩)] W (Looked (P i) W)) :
    Calls Tryz.prog 75 #[.slice (some ⟨b, 0, none⟩) k cap, .func (.func 76) #[] #[.pointer (some ⟨g, 0, none⟩), .pointer (some ⟨g', 0, none⟩)]] w (Looked (allB P k) w) := by
  have HF := hid hF
  have HC := hid hf
  clear hF hf
  go_enter Tryz.func75, Tryz.ntmps75
  go_wp2
  go_loopw [9] (fun iv wr => ∃ i : Nat, i ≤ k ∧ iv = .int .i64 i ∧ allB P i = true ∧ Below w.heap.size w wr) (fun iv wr => k - (intOf iv).toNat)
  case atStart => exact ⟨0, Nat.zero_le _, rfl, rfl, Below.refl _ _⟩
  case round =>
    obtain ⟨i, hik, rfl, hall, HBW⟩ := hrel
    have HALL := hid hall
    clear hall
    by_cases hlt : i < k
    · have hcell := (bcells HBW _ _ hb).trans (HF.out i hlt)
      have hcall := HC.out i hlt wr HBW
      generalize F i = fv at *
      have HCALL := hid hcall
      have HB := hid HBW
      clear hcall HBW
      go_wp2_with fail
      refine HCALL.out.mono ?_
      rintro e w2 ⟨rfl, hb2⟩
      have HB2 := hid (below_call HB.out hb2 HB.out.size)
      clear hb2
      cases hP : P i
      · have HN : Hid (allB P k = false) := hid (allB_no hlt hP)
        clear hP
        go_wp2
        go_ret
        exact ⟨ret_bool HN.out.symm, HB2.out⟩
      · have HN : Hid (allB P (i + 1) = true) := hid (by rw [allB, HALL.out, hP]; rfl)
        clear hP
        go_wp2
        go_roundw
        case rel => exact ⟨i + 1, by omega, by go_num, HN.out, HB2.out⟩
        case measure => simp [intOf]; omega
    · have hke : i = k := by omega
      subst hke
      have HB := hid HBW
      clear HBW
      go_wp2
      go_ret
      exact ⟨ret_bool HALL.out.symm, HB.out⟩

end Go.Proofs.YtmnlggmdomcajaaGreat
