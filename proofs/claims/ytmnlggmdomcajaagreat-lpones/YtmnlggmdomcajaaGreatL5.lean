/-
  Whether a point is within a problem.
-/
import Derived.Test.YtmnlggmdomcajaaGreatL4
namespace Go.Proofs.YtmnlggmdomcajaaGreat
open Go.RowKit Lm
set_option linter.unusedSimpArgs false
set_option linter.unusedVariables false
set_option maxRecDepth 100000

/-- Of each row the Dot with x is at most B's. -/
def atMost (M : List (List Rat)) (B X : List Rat) : Nat → Bool := fun i => decide (cmpR ((timesR M X).getD i 0) (B.getD i 0) ≤ 0)
def withinB (n : Int) (ka kb kc : Nat) (M : List (List Rat)) (B X : List Rat) : Bool := rightB n ka kb kc M && decide ((X.length : Int) = n) && allB (atMost M B X) M.length

set_option maxHeartbeats 3200000 in
theorem lpWithin_any (w : World) (n : Int) (ao bo co xo : Option Addr) (ka ca kb cb kc cc kx cx s m q : Nat) (M : List (List Rat)) (B X : List Rat) (hk : ka = M.length) (hA : QTab w ao ca s M) (hB : QSl w (.slice bo kb cb) m B) (hkc : kc ≤ 9223372036854775807) (hX : QSl w (.slice xo kx cx) q X) (hs1 : 1 ≤ s) (hq1 : 1 ≤ q) (hz : (s + q) * 60 ≤ 4000) (hm : m ≤ 5000) :
    Calls Tryz.prog 29 #[(.agg #[.int .i64 n, .slice ao ka ca, .slice bo kb cb, .slice co kc cc]), .slice xo kx cx] w fun e w' => e = .returned (.bool (withinB n ka kb kc M B X)) ∧ Below w.heap.size w w' := by
  obtain ⟨hkx, hkx64⟩ := hX.len
  obtain ⟨hkb, hkb64⟩ := hB.len
  have hW0 : Below w.heap.size w (w.alloc (.cells #[.int .i64 n, .slice ao ka ca, .slice bo kb cb, .slice co kc cc] 43)) := (by repeat (first | exact Below.refl _ _ | refine Below.alloc ?_ ?_ _ | refine Below.setCell ?_ ?_ _ | refine Below.drew ?_ | refine below_drewN ?_ _ | (· simp) | omega | (· simp; omega) | exact Below.size (by assumption) | assumption | refine below_call ?_ (by assumption) ?_))
  have bL : BoxL (w.alloc (.cells #[.int .i64 n, .slice ao ka ca, .slice bo kb cb, .slice co kc cc] 43)) w.heap.size (.int .i64 n) (.slice ao ka ca) (.slice bo kb cb) (.slice co kc cc) := BoxL.new _ _ _ _ _ _ rfl
  have HA := hid (hA.below hW0)
  have HB := hid (hB.below hW0)
  have HX := hid (hX.below hW0)
  have HW := hid hW0
  have HK := hid hk
  have HKX := hid hkx
  have HKB := hid hkb
  clear hA hB hX hk hW0 hkx hkb
  go_enter Tryz.func29, Tryz.ntmps29
  go_wp2_with fail
  generalize w.alloc (.cells #[.int .i64 n, .slice ao ka ca, .slice bo kb cb, .slice co kc cc] 43) = W0 at *
  refine (lpRight_any _ n ao bo co ka ca kb cb kc cc s M HK.out HA.out hkb64 hkc).mono ?_
  rintro e w1 ⟨rfl, hb1⟩
  have hW1 := below_call HW.out hb1 HW.out.size
  replace bL := bL.keep hb1
  replace HA := hid (HA.out.below hb1)
  replace HB := hid (HB.out.below hb1)
  replace HX := hid (HX.out.below hb1)
  clear hb1 HW
  obtain ⟨g0, g1, g2, g3⟩ := bL.c
  have gl := bL.lt
  cases hR : rightB n ka kb kc M
  · have HF : Hid (withinB n ka kb kc M B X = false) := hid (by simp [withinB, hR])
    have HR := hid hW1
    clear hR hW1
    go_wp2
    go_ret
    exact ⟨ret_bool HF.out.symm, HR.out⟩
  · obtain ⟨r1, r2, r3, r4, r5, r6⟩ := rightB_iff.1 hR
    have HRR := hid hR
    have HWD := hid r6
    clear hR r6
    by_cases hkn : (kx : Int) = n
    · have hknb : ((kx : Int) != n) = false := by simp [hkn]
      have HKN := hid hkn
      have hkx60 : kx ≤ 60 := by omega
      have hz2 : (s + q) * kx ≤ 4000 := Nat.le_trans (Nat.mul_le_mul_left _ hkx60) hz
      have HE : Hid (withinB n ka kb kc M B X = allB (atMost M B X) ka) := hid (by
        rw [withinB, HRR.out, decide_eq_true (show (X.length : Int) = n by rw [← HKX.out]; exact hkn), ← HK.out]
        simp)
      have HWK : Hid (wide M (kx : Int) = true) := hid (by rw [hkn]; exact HWD.out)
      clear hkn r3 r5
      go_wp2_with fail
      refine (Times_any _ _ _ _ _ kx _ s q M X HK.out (by omega) HA.out HX.out HWK.out hs1 hq1 (by rw [← HKX.out]; omega)).mono ?_
      rintro e w2 ⟨ta, tk, tc, rfl, htk, hQ2, hb2⟩
      rw [timesR_len, ← HK.out] at htk
      subst htk
      rw [← HKX.out] at hQ2
      have hW2 := below_call hW1 hb2 hW1.size
      replace bL := bL.keep hb2
      replace HB := hid (HB.out.below hb2)
      have HQ2 := hid hQ2.sl
      clear hb2 hW1 hQ2 g0 g1 g2 g3 gl HA HX
      go_wp2_with fail
      refine (each_within _ _ _ _ ((s + q) * kx + 1) (timesR M X) _ (atMost M B X) (by rw [timesR_len]; exact HK.out) HQ2.out (fun i hi W x hb hx => ?_)).mono ?_
      · have hiB : i < B.length := by
          rw [timesR_len, ← HK.out] at hi
          have h1 := HKB.out
          have h2 := (rightB_iff.1 HRR.out).2.2.2.2.1
          omega
        refine (within1_any W _ i x ((s + q) * kx + 1) m kb cb bo (timesR M X)[i] B _ _ _ hx (HB.out.below hb) hiB (bL.keep hb) (by omega) hm).mono ?_
        rintro e w' ⟨rfl, hb'⟩
        refine ⟨ret_bool ?_, hb'⟩
        unfold atMost
        rw [List.getD_eq_getElem?_getD, List.getElem?_eq_getElem hi, List.getD_eq_getElem?_getD, List.getElem?_eq_getElem hiB]
        rfl
      · rintro e w3 ⟨rfl, hb3⟩
        have HR := hid (below_call hW2 hb3 hW2.size)
        clear hb3 hW2
        obtain ⟨b, hb⟩ : ∃ b, allB (atMost M B X) tk = b := ⟨_, rfl⟩
        have HBB := hid hb
        rw [hb]
        clear hb
        go_wp2
        go_ret
        exact ⟨ret_bool (by rw [HE.out, HBB.out]), HR.out⟩
    · have hknb : ((kx : Int) != n) = true := by simp [hkn]
      have HF : Hid (withinB n ka kb kc M B X = false) := hid (by
        rw [withinB, decide_eq_false (show ¬ (X.length : Int) = n by rw [← HKX.out]; exact hkn)]
        simp)
      have HR := hid hW1
      clear hkn hW1 r3 r5
      go_wp2
      go_ret
      exact ⟨ret_bool HF.out.symm, HR.out⟩

end Go.Proofs.YtmnlggmdomcajaaGreat
