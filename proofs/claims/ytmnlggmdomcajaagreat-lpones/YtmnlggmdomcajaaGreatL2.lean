/-
  Whether a problem is right: the document's own.
-/
import Derived.Test.YtmnlggmdomcajaaGreatL1
namespace Go.Proofs.YtmnlggmdomcajaaGreat
open Go.RowKit Lm
set_option linter.unusedSimpArgs false
set_option linter.unusedVariables false
set_option maxRecDepth 100000

set_option maxHeartbeats 1600000 in
theorem rRight_any (w : World) (n : Int) (ao bo co : Option Addr) (ka ca kb cb kc cc s : Nat) (M : List (List Rat)) (hk : ka = M.length) (hA : QTab w ao ca s M) (hkb : kb ≤ 9223372036854775807) (hkc : kc ≤ 9223372036854775807) :
    Calls Tryz.prog 28 #[(.agg #[.int .i64 n, .slice ao ka ca, .slice bo kb cb, .slice co kc cc])] w fun e w' => e = .returned (.bool (rightB n ka kb kc M)) ∧ Below w.heap.size w w' := by
  have hka64 : ka ≤ 9223372036854775807 := by have := hA.len; omega
  have hW0 : Below w.heap.size w (w.alloc (.cells #[.int .i64 n, .slice ao ka ca, .slice bo kb cb, .slice co kc cc] 43)) := (by repeat (first | exact Below.refl _ _ | refine Below.alloc ?_ ?_ _ | refine Below.setCell ?_ ?_ _ | refine Below.drew ?_ | refine below_drewN ?_ _ | (· simp) | omega | (· simp; omega) | exact Below.size (by assumption) | assumption | refine below_call ?_ (by assumption) ?_))
  have bL : BoxL (w.alloc (.cells #[.int .i64 n, .slice ao ka ca, .slice bo kb cb, .slice co kc cc] 43)) w.heap.size (.int .i64 n) (.slice ao ka ca) (.slice bo kb cb) (.slice co kc cc) := BoxL.new _ _ _ _ _ _ rfl
  have HA := hid (hA.below hW0)
  have HW := hid hW0
  have HK := hid hk
  clear hA hk hW0
  by_cases h1 : n < 0
  · have HF : Hid (rightB n ka kb kc M = false) := hid (by simp [rightB]; omega)
    go_enter Tryz.func28, Tryz.ntmps28; go_wp2; go_ret; exact ⟨ret_bool HF.out.symm, HW.out⟩
  · by_cases h2 : 60 < n
    · have HF : Hid (rightB n ka kb kc M = false) := hid (by simp [rightB]; omega)
      go_enter Tryz.func28, Tryz.ntmps28; go_wp2; go_ret; exact ⟨ret_bool HF.out.symm, HW.out⟩
    · by_cases h4 : 60 < ka
      · have h4i : (60 : Int) < (ka : Int) := by omega
        have HF : Hid (rightB n ka kb kc M = false) := hid (by simp [rightB]; omega)
        go_enter Tryz.func28, Tryz.ntmps28; go_wp2; go_ret; exact ⟨ret_bool HF.out.symm, HW.out⟩
      · have h4i : ¬ (60 : Int) < (ka : Int) := by omega
        by_cases h5 : kb = ka
        · have h5b : ((ka : Int) != (kb : Int)) = false := by simp [h5]
          by_cases h3 : (kc : Int) = n
          · have h3b : ((kc : Int) != n) = false := by simp [h3]
            have HF : Hid (rightB n ka kb kc M = wide M n) := hid (by
              unfold rightB
              rw [decide_eq_true (show 0 ≤ n by omega), decide_eq_true (show n ≤ 60 by omega), decide_eq_true h3, decide_eq_true (show ka ≤ 60 by omega), decide_eq_true h5]
              simp)
            clear h3 h5
            go_enter Tryz.func28, Tryz.ntmps28
            go_wp2
            generalize w.alloc (.cells #[.int .i64 n, .slice ao ka ca, .slice bo kb cb, .slice co kc cc] 43) = W0 at *
            (try rw [h3b])
            (try rw [h5b])
            go_loopw [3] (fun iv wr => ∃ i : Nat, i ≤ ka ∧ iv = .int .i64 i ∧ (∀ j (hj : j < M.length), j < i → (M[j].length : Int) = n) ∧ Below W0.heap.size W0 wr) (fun iv wr => ka - (intOf iv).toNat)
            case atStart => exact ⟨0, Nat.zero_le _, rfl, fun j hj h => by omega, Below.refl _ _⟩
            case round =>
              obtain ⟨i, hik, rfl, hall, HBW⟩ := hrel
              have HALL := hid hall
              clear hall
              obtain ⟨g0, g1, g2, g3⟩ := (bL.keep HBW).c
              have gl := (bL.keep HBW).lt
              by_cases hlt : i < ka
              · have hi' : i < M.length := by rw [← HK.out]; exact hlt
                obtain ⟨b1, o1, rfl, l1, hc⟩ := HA.out.at (by omega)
                obtain ⟨a, kr, cr, hcell, hq⟩ := hc i hi'
                obtain ⟨hkr, hkm⟩ := hq.len
                have HKR := hid hkr
                replace hcell := (bcells HBW _ _ l1).trans hcell
                have HB := hid HBW
                clear hc hq hkr HBW
                by_cases hn : (kr : Int) = n
                · have hnb : ((kr : Int) != n) = false := by simp [hn]
                  have HN := hid hn
                  clear hn
                  go_wp2
                  go_quiet (fail)
                  go_wp2
                  go_roundw
                  case rel =>
                    refine ⟨i + 1, by omega, by go_num, fun j hj hji => ?_, below_drewN HB.out _⟩
                    by_cases hj2 : j = i
                    · subst hj2; rw [← HKR.out]; exact HN.out
                    · exact HALL.out j hj (by omega)
                  case measure => simp [intOf]; omega
                · have hnb : ((kr : Int) != n) = true := by simp [hn]
                  have HF2 : Hid (wide M n = false) := hid (by
                    unfold wide
                    rw [List.all_eq_false]
                    exact ⟨M[i], List.getElem_mem hi', by rw [← HKR.out]; simpa using hn⟩)
                  clear hn
                  go_wp2
                  go_quiet (fail)
                  go_wp2
                  go_ret
                  exact ⟨ret_bool (by rw [HF.out, HF2.out]), below_drewN (below_call HW.out HB.out HW.out.size) _⟩
              · have HF2 : Hid (wide M n = true) := hid (by
                  unfold wide
                  rw [List.all_eq_true]
                  intro R hR
                  obtain ⟨j, hj, rfl⟩ := List.getElem_of_mem hR
                  exact decide_eq_true (HALL.out j hj (by have := HK.out; omega)))
                have HB := hid (below_call HW.out HBW HW.out.size)
                clear HBW
                go_wp2
                go_ret
                exact ⟨ret_bool (by rw [HF.out, HF2.out]), HB.out⟩
          · have h3b : ((kc : Int) != n) = true := by simp [h3]
            have HF : Hid (rightB n ka kb kc M = false) := hid (by simp [rightB, h3])
            clear h5
            go_enter Tryz.func28, Tryz.ntmps28; go_wp2; go_ret; exact ⟨ret_bool HF.out.symm, HW.out⟩
        · have h5b : ((ka : Int) != (kb : Int)) = true := by simp; omega
          have HF : Hid (rightB n ka kb kc M = false) := hid (by simp [rightB, h5])
          go_enter Tryz.func28, Tryz.ntmps28; go_wp2; go_ret; exact ⟨ret_bool HF.out.symm, HW.out⟩

end Go.Proofs.YtmnlggmdomcajaaGreat
