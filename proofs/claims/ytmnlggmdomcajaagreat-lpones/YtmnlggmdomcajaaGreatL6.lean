/-
  Whether a point is within a problem: the document's own.
-/
import Derived.Test.YtmnlggmdomcajaaGreatL5
namespace Go.Proofs.YtmnlggmdomcajaaGreat
open Go.RowKit Lm
set_option linter.unusedSimpArgs false
set_option linter.unusedVariables false
set_option maxRecDepth 100000

set_option maxHeartbeats 3200000 in
theorem rWithin_any (w : World) (n : Int) (ao bo co xo : Option Addr) (ka ca kb cb kc cc kx cx s m q : Nat) (M : List (List Rat)) (B X : List Rat) (hk : ka = M.length) (hA : QTab w ao ca s M) (hB : QSl w (.slice bo kb cb) m B) (hkc : kc ≤ 9223372036854775807) (hX : QSl w (.slice xo kx cx) q X) (hs1 : 1 ≤ s) (hq1 : 1 ≤ q) (hz : (s + q) * 60 ≤ 4000) (hm : m ≤ 5000) :
    Calls Tryz.prog 30 #[(.agg #[.int .i64 n, .slice ao ka ca, .slice bo kb cb, .slice co kc cc]), .slice xo kx cx] w fun e w' => e = .returned (.bool (withinB n ka kb kc M B X)) ∧ Below w.heap.size w w' := by
  obtain ⟨hkx, hkx64⟩ := hX.len
  obtain ⟨hkb, hkb64⟩ := hB.len
  have hW0 : Below w.heap.size w (w.alloc (.cells #[.int .i64 n, .slice ao ka ca, .slice bo kb cb, .slice co kc cc] 43)) := (by repeat (first | exact Below.refl _ _ | refine Below.alloc ?_ ?_ _ | refine Below.setCell ?_ ?_ _ | refine Below.drew ?_ | refine below_drewN ?_ _ | (· simp) | omega | (· simp; omega) | exact Below.size (by assumption) | assumption | refine below_call ?_ (by assumption) ?_))
  have bL : BoxL (w.alloc (.cells #[.int .i64 n, .slice ao ka ca, .slice bo kb cb, .slice co kc cc] 43)) w.heap.size (.int .i64 n) (.slice ao ka ca) (.slice bo kb cb) (.slice co kc cc) := BoxL.new _ _ _ _ _ _ rfl
  have HA := hid (hA.below hW0)
  have HB := hid (hB.below hW0)
  have HX := hid (hX.below hW0)
  have HW := hid hW0
  have HK := hid hk
  have HKX := hid hkx
  have HKB := hid hkb
  clear hA hB hX hk hW0 hkx hkb
  go_enter Tryz.func30, Tryz.ntmps30
  go_wp2_with fail
  generalize w.alloc (.cells #[.int .i64 n, .slice ao ka ca, .slice bo kb cb, .slice co kc cc] 43) = W0 at *
  refine (rRight_any _ n ao bo co ka ca kb cb kc cc s M HK.out HA.out hkb64 hkc).mono ?_
  rintro e w1 ⟨rfl, hb1⟩
  have hW1 := below_call HW.out hb1 HW.out.size
  replace bL := bL.keep hb1
  replace HA := hid (HA.out.below hb1)
  replace HB := hid (HB.out.below hb1)
  replace HX := hid (HX.out.below hb1)
  clear hb1 HW
  obtain ⟨g0, g1, g2, g3⟩ := bL.c
  have gl := bL.lt
  cases hR : rightB n ka kb kc M
  · have HF : Hid (withinB n ka kb kc M B X = false) := hid (by simp [withinB, hR])
    have HR := hid hW1
    clear hR hW1
    go_wp2
    go_ret
    exact ⟨ret_bool HF.out.symm, HR.out⟩
  · obtain ⟨r1, r2, r3, r4, r5, r6⟩ := rightB_iff.1 hR
    have HRR := hid hR
    have HWD := hid r6
    clear hR r6
    by_cases hkn : (kx : Int) = n
    · have hknb : ((kx : Int) != n) = false := by simp [hkn]
      have HKN := hid hkn
      have hkx60 : kx ≤ 60 := by omega
      have hz2 : (s + q) * kx ≤ 4000 := Nat.le_trans (Nat.mul_le_mul_left _ hkx60) hz
      have HE : Hid (withinB n ka kb kc M B X = allB (atMost M B X) ka) := hid (by
        rw [withinB, HRR.out, decide_eq_true (show (X.length : Int) = n by rw [← HKX.out]; exact hkn), ← HK.out]
        simp)
      have HWK : Hid (wide M (X.length : Int) = true) := hid (by rw [← HKX.out, hkn]; exact HWD.out)
      have HBA : Hid (B.length = ka) := hid (by have := HKB.out; omega)
      clear hkn r3 r5
      go_wp2_with fail
      refine (rtimes_any _ _ _ _ _ kx _ s q M X HK.out (by omega) HA.out HX.out hs1 hq1 hz2).mono ?_
      rintro e w2 (⟨-, ta, tk, tc, rfl, htk, hQ2, hb2⟩ | ⟨h0, -⟩)
      · rw [timesR_len, ← HK.out] at htk
        subst htk
        have hW2 := below_call hW1 hb2 hW1.size
        replace bL := bL.keep hb2
        replace HB := hid (HB.out.below hb2)
        have HQ2 := hid hQ2.sl
        clear hb2 hW1 hQ2 g0 g1 g2 g3 gl HA HX
        go_wp2
        (try rw [hknb])
        go_loopw [7] (fun iv wr => ∃ i : Nat, i ≤ tk ∧ iv = .int .i64 i ∧ allB (atMost M B X) i = true ∧ Below w2.heap.size w2 wr) (fun iv wr => tk - (intOf iv).toNat)
        case atStart => exact ⟨0, Nat.zero_le _, rfl, rfl, Below.refl _ _⟩
        case round =>
          obtain ⟨i, hik, rfl, hall, HBW⟩ := hrel
          have HALL := hid hall
          clear hall
          by_cases hlt : i < tk
          · have hiT : i < (timesR M X).length := by rw [timesR_len, ← HK.out]; exact hlt
            have hiB : i < B.length := by rw [HBA.out]; exact hlt
            obtain ⟨bt, ot, rfl, lt1, hcT⟩ := HQ2.out.cellsAt (by omega)
            obtain ⟨b1, o1, rfl, lb1, hcB⟩ := HB.out.cellsAt (by omega)
            obtain ⟨n1, a1, k1, c1, n2, a2, k2, c2, hC1, hX1⟩ := hcT i hiT
            obtain ⟨n3, a3, k3, c3, n4, a4, k4, c4, hC2, hY1⟩ := hcB i hiB
            obtain ⟨g0, g1, g2, g3⟩ := bL.c
            have gl := bL.lt
            have hib : i < kb := by have := HKB.out; omega
            obtain ⟨z, hz0⟩ : ∃ z, cmpR (timesR M X)[i] B[i] = z := ⟨_, rfl⟩
            have hP : atMost M B X i = decide (z ≤ 0) := by
              unfold atMost
              rw [List.getD_eq_getElem?_getD, List.getElem?_eq_getElem hiT, List.getD_eq_getElem?_getD, List.getElem?_eq_getElem hiB]
              show decide (cmpR (timesR M X)[i] B[i] ≤ 0) = _
              rw [hz0]
            have HPP := hid hP
            have HXX := hid hX1
            have HYY := hid hY1
            generalize (timesR M X)[i] = rx at *
            generalize B[i] = ry at *
            have HZ := hid hz0
            replace HBW := HBW.drew
            clear hz0 hP hX1 hY1 hcT hcB
            by_cases hz1 : 0 < z
            · have hz1n : ¬ z ≤ 0 := by omega
              have HN : Hid (allB (atMost M B X) tk = false) := hid (allB_no hlt (by rw [HPP.out, decide_eq_false hz1n]))
              clear hz1n
              go_wp2
              go_region_held3 (fun W' => W'.cell? ⟨bt, ot + i * 4, none⟩ = some (.bool n1) ∧ W'.cell? ⟨bt, ot + i * 4 + 1, none⟩ = some (.slice a1 k1 c1) ∧ W'.cell? ⟨bt, ot + i * 4 + 2, none⟩ = some (.bool n2) ∧ W'.cell? ⟨bt, ot + i * 4 + 3, none⟩ = some (.slice a2 k2 c2) ∧ W'.cell? ⟨w.heap.size, 2, none⟩ = some (.slice (some ⟨b1, o1, none⟩) kb cb) ∧ W'.cell? ⟨b1, o1 + i * 4, none⟩ = some (.bool n3) ∧ W'.cell? ⟨b1, o1 + i * 4 + 1, none⟩ = some (.slice a3 k3 c3) ∧ W'.cell? ⟨b1, o1 + i * 4 + 2, none⟩ = some (.bool n4) ∧ W'.cell? ⟨b1, o1 + i * 4 + 3, none⟩ = some (.slice a4 k4 c4)) (exact keepU hC1 lt1 g2 gl hC2 lb1 HBW) (first | (go_at_call 33; go_must (refine (cmpRat_any _ _ _ ((s + q) * kx + 1) m rx ry (HXX.out.below HBW) (HYY.out.below HBW) (by omega) hm).mono ?_); rintro e w1 ⟨rfl, hb⟩; rw [HZ.out]; have HBn := below_call HBW hb HBW.size; clear HBW hb; have HBW := HBn; clear HBn))
              have HB2 := hid (below_call hW2 HBW hW2.size)
              clear HBW
              go_wp2
              go_ret
              exact ⟨ret_bool (by rw [HE.out, HN.out]), HB2.out⟩
            · have HN : Hid (allB (atMost M B X) (i + 1) = true) := hid (by rw [allB, HALL.out, HPP.out, decide_eq_true (show z ≤ 0 by omega)]; rfl)
              go_wp2
              go_region_held3 (fun W' => W'.cell? ⟨bt, ot + i * 4, none⟩ = some (.bool n1) ∧ W'.cell? ⟨bt, ot + i * 4 + 1, none⟩ = some (.slice a1 k1 c1) ∧ W'.cell? ⟨bt, ot + i * 4 + 2, none⟩ = some (.bool n2) ∧ W'.cell? ⟨bt, ot + i * 4 + 3, none⟩ = some (.slice a2 k2 c2) ∧ W'.cell? ⟨w.heap.size, 2, none⟩ = some (.slice (some ⟨b1, o1, none⟩) kb cb) ∧ W'.cell? ⟨b1, o1 + i * 4, none⟩ = some (.bool n3) ∧ W'.cell? ⟨b1, o1 + i * 4 + 1, none⟩ = some (.slice a3 k3 c3) ∧ W'.cell? ⟨b1, o1 + i * 4 + 2, none⟩ = some (.bool n4) ∧ W'.cell? ⟨b1, o1 + i * 4 + 3, none⟩ = some (.slice a4 k4 c4)) (exact keepU hC1 lt1 g2 gl hC2 lb1 HBW) (first | (go_at_call 33; go_must (refine (cmpRat_any _ _ _ ((s + q) * kx + 1) m rx ry (HXX.out.below HBW) (HYY.out.below HBW) (by omega) hm).mono ?_); rintro e w1 ⟨rfl, hb⟩; rw [HZ.out]; have HBn := below_call HBW hb HBW.size; clear HBW hb; have HBW := HBn; clear HBn))
              have HB2 := hid HBW
              clear HBW
              go_wp2
              go_roundw
              case rel => exact ⟨i + 1, by omega, by go_num, HN.out, HB2.out⟩
              case measure => simp [intOf]; omega
          · have hke : i = tk := by omega
            subst hke
            have HB2 := hid (below_call hW2 HBW hW2.size)
            clear HBW
            go_wp2
            go_ret
            exact ⟨ret_bool (by rw [HE.out, HALL.out]), HB2.out⟩
      · rw [HWK.out] at h0
        simp at h0
    · have hknb : ((kx : Int) != n) = true := by simp [hkn]
      have HF : Hid (withinB n ka kb kc M B X = false) := hid (by
        rw [withinB, decide_eq_false (show ¬ (X.length : Int) = n by rw [← HKX.out]; exact hkn)]
        simp)
      have HR := hid hW1
      clear hkn hW1 r3 r5
      go_wp2
      go_ret
      exact ⟨ret_bool HF.out.symm, HR.out⟩

end Go.Proofs.YtmnlggmdomcajaaGreat
