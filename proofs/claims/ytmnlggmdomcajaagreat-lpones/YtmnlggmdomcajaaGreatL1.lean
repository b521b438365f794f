/-
  Linear problems: their boxes; whether one is right.
-/
import Derived.Test.YtmnlggmdomcajaaGreatVD
import Derived.Test.YtmnlggmdomcajaaGreatVC
namespace Go.Proofs.YtmnlggmdomcajaaGreat
open Go.RowKit Lm
set_option linter.unusedSimpArgs false
set_option linter.unusedVariables false
set_option maxRecDepth 100000

/-- A problem in the heap. -/
def BoxL (w : World) (g : Nat) (x a b c : Value) : Prop := w.heap[g]? = some (.cells #[x, a, b, c] 43 (0, 0))
section
variable {w w' : World} {g : Nat} {x a b d : Value}
theorem BoxL.lt (h : BoxL w g x a b d) : g < w.heap.size := (Array.getElem?_eq_some_iff.1 h).1
theorem BoxL.c (h : BoxL w g x a b d) : w.cell? ⟨g, 0, none⟩ = some x ∧ w.cell? ⟨g, 1, none⟩ = some a ∧ w.cell? ⟨g, 2, none⟩ = some b ∧ w.cell? ⟨g, 3, none⟩ = some d :=
  ⟨by rw [cell_of_row _ _ _ _ _ _ h]; rfl, by rw [cell_of_row _ _ _ _ _ _ h]; rfl, by rw [cell_of_row _ _ _ _ _ _ h]; rfl, by rw [cell_of_row _ _ _ _ _ _ h]; rfl⟩
theorem BoxL.keep (h : BoxL w g x a b d) (hb : Below w.heap.size w w') : BoxL w' g x a b d := (hb.block g h.lt).trans h
theorem BoxL.new (w : World) (x a b c : Value) (g : Nat) (hg : g = w.heap.size) : BoxL (w.alloc (.cells #[x, a, b, c] 43)) g x a b c := by subst hg; exact heap_alloc_new w _
end

/-- Are there as many numbers everywhere as there must be? -/
def rightB (n : Int) (ka kb kc : Nat) (M : List (List Rat)) : Bool := decide (0 ≤ n) && decide (n ≤ 60) && decide ((kc : Int) = n) && decide (ka ≤ 60) && decide (kb = ka) && wide M n
theorem rightB_iff {n : Int} {ka kb kc : Nat} {M : List (List Rat)} : rightB n ka kb kc M = true ↔ 0 ≤ n ∧ n ≤ 60 ∧ (kc : Int) = n ∧ ka ≤ 60 ∧ kb = ka ∧ wide M n = true := by
  unfold rightB
  simp [and_assoc]

theorem right1_any (w : World) (g : Nat) (i n : Int) (a : Option Addr) (kr cr : Nat) (va vb vc : Value) (hkr : kr ≤ 9223372036854775807) (hL : BoxL w g (.int .i64 n) va vb vc) :
    Calls Tryz.prog 57 #[.int .i64 i, .slice a kr cr, .pointer (some ⟨g, 0, none⟩)] w fun e w' => e = .returned (.bool (decide ((kr : Int) = n))) ∧ w' = w := by
  obtain ⟨g0, g1, g2, g3⟩ := hL.c
  have gl := hL.lt
  go_enter Tryz.func57, Tryz.ntmps57
  go_wp2
  go_ret
  refine ⟨?_, rfl⟩
  show Ending.returned (.bool ((kr : Int) == n)) = _
  congr 2

set_option maxHeartbeats 800000 in
theorem eachRight_any (w : World) (ao : Option Addr) (cap k s g : Nat) (n : Int) (M : List (List Rat)) (va vb vc : Value) (hk : k = M.length) (hA : QTab w ao cap s M) (hL : BoxL w g (.int .i64 n) va vb vc) :
    Calls Tryz.prog 56 #[.slice ao k cap, .func (.func 57) #[] #[.pointer (some ⟨g, 0, none⟩)]] w fun e w' => e = .returned (.bool (wide M n)) ∧ w' = w := by
  have hk64 : k ≤ 9223372036854775807 := by have := hA.len; omega
  have HA := hid hA
  have HK := hid hk
  have HL := hid hL
  clear hA hk hL
  go_enter Tryz.func56, Tryz.ntmps56
  go_wp2
  go_loop [9] (fun iv => ∃ i : Nat, i ≤ k ∧ iv = .int .i64 i ∧ ∀ j (hj : j < M.length), j < i → (M[j].length : Int) = n) (fun iv => k - (intOf iv).toNat)
  case atStart => exact ⟨0, Nat.zero_le _, rfl, fun j hj h => by omega⟩
  case round =>
    obtain ⟨i, hik, rfl, hall⟩ := hrel
    have HALL := hid hall
    clear hall
    by_cases hlt : i < k
    · have hi' : i < M.length := by rw [← HK.out]; exact hlt
      obtain ⟨b1, o1, rfl, l1, hc⟩ := HA.out.at (by omega)
      obtain ⟨a, kr, cr, hcell, hq⟩ := hc i hi'
      obtain ⟨hkr, hkm⟩ := hq.len
      have HKR := hid hkr
      clear hc hq hkr
      go_wp2_with fail
      refine (right1_any _ _ _ n _ kr _ va vb vc hkm HL.out).mono ?_
      rintro e w1 ⟨rfl, rfl⟩
      by_cases hn : (kr : Int) = n
      · rw [decide_eq_true hn]
        have HN := hid hn
        clear hn
        go_wp2
        go_round
        case rel =>
          refine ⟨i + 1, by omega, by go_num, fun j hj hji => ?_⟩
          by_cases hj2 : j = i
          · subst hj2; rw [← HKR.out]; exact HN.out
          · exact HALL.out j hj (by omega)
        case measure => simp [intOf]; omega
      · rw [decide_eq_false hn]
        have HF : Hid (wide M n = false) := hid (by
          unfold wide
          rw [List.all_eq_false]
          exact ⟨M[i], List.getElem_mem hi', by rw [← HKR.out]; simpa using hn⟩)
        clear hn
        go_wp2
        go_ret
        exact ⟨ret_bool HF.out.symm, rfl⟩
    · have HF : Hid (wide M n = true) := hid (by
        unfold wide
        rw [List.all_eq_true]
        intro R hR
        obtain ⟨j, hj, rfl⟩ := List.getElem_of_mem hR
        exact decide_eq_true (HALL.out j hj (by have := HK.out; omega)))
      go_wp2
      go_ret
      exact ⟨ret_bool HF.out.symm, rfl⟩

set_option maxHeartbeats 1600000 in
theorem lpRight_any (w : World) (n : Int) (ao bo co : Option Addr) (ka ca kb cb kc cc s : Nat) (M : List (List Rat)) (hk : ka = M.length) (hA : QTab w ao ca s M) (hkb : kb ≤ 9223372036854775807) (hkc : kc ≤ 9223372036854775807) :
    Calls Tryz.prog 27 #[(.agg #[.int .i64 n, .slice ao ka ca, .slice bo kb cb, .slice co kc cc])] w fun e w' => e = .returned (.bool (rightB n ka kb kc M)) ∧ Below w.heap.size w w' := by
  have hka64 : ka ≤ 9223372036854775807 := by have := hA.len; omega
  have hW0 : Below w.heap.size w (w.alloc (.cells #[.int .i64 n, .slice ao ka ca, .slice bo kb cb, .slice co kc cc] 43)) := (by repeat (first | exact Below.refl _ _ | refine Below.alloc ?_ ?_ _ | refine Below.setCell ?_ ?_ _ | refine Below.drew ?_ | refine below_drewN ?_ _ | (· simp) | omega | (· simp; omega) | exact Below.size (by assumption) | assumption | refine below_call ?_ (by assumption) ?_))
  have bL : BoxL (w.alloc (.cells #[.int .i64 n, .slice ao ka ca, .slice bo kb cb, .slice co kc cc] 43)) w.heap.size (.int .i64 n) (.slice ao ka ca) (.slice bo kb cb) (.slice co kc cc) := BoxL.new _ _ _ _ _ _ rfl
  have HA := hid (hA.below hW0)
  have HW := hid hW0
  have HK := hid hk
  clear hA hk hW0
  by_cases h1 : n < 0
  · have HF : Hid (rightB n ka kb kc M = false) := hid (by simp [rightB]; omega)
    go_enter Tryz.func27, Tryz.ntmps27
    go_wp2
    go_ret
    exact ⟨ret_bool HF.out.symm, HW.out⟩
  · by_cases h2 : 60 < n
    · have HF : Hid (rightB n ka kb kc M = false) := hid (by simp [rightB]; omega)
      go_enter Tryz.func27, Tryz.ntmps27
      go_wp2
      go_ret
      exact ⟨ret_bool HF.out.symm, HW.out⟩
    · by_cases h3 : (kc : Int) = n
      · have h3b : ((kc : Int) != n) = false := by simp [h3]
        by_cases h4 : 60 < ka
        · have h4i : (60 : Int) < (ka : Int) := by omega
          have HF : Hid (rightB n ka kb kc M = false) := hid (by simp [rightB]; omega)
          clear h3
          go_enter Tryz.func27, Tryz.ntmps27
          go_wp2
          go_ret
          exact ⟨ret_bool HF.out.symm, HW.out⟩
        · have h4i : ¬ (60 : Int) < (ka : Int) := by omega
          by_cases h5 : kb = ka
          · have h5b : ((kb : Int) != (ka : Int)) = false := by simp [h5]
            have HF : Hid (rightB n ka kb kc M = wide M n) := hid (by
              unfold rightB
              rw [decide_eq_true (show 0 ≤ n by omega), decide_eq_true (show n ≤ 60 by omega), decide_eq_true h3, decide_eq_true (show ka ≤ 60 by omega), decide_eq_true h5]
              simp)
            clear h3 h5
            go_enter Tryz.func27, Tryz.ntmps27
            go_wp2_with fail
            generalize w.alloc (.cells #[.int .i64 n, .slice ao ka ca, .slice bo kb cb, .slice co kc cc] 43) = W0 at *
            refine (eachRight_any _ _ _ _ s _ n M _ _ _ HK.out HA.out bL).mono ?_
            rintro e w1 ⟨rfl, rfl⟩
            go_wp2
            go_ret
            exact ⟨ret_bool HF.out.symm, HW.out⟩
          · have h5b : ((kb : Int) != (ka : Int)) = true := by simp; omega
            have HF : Hid (rightB n ka kb kc M = false) := hid (by simp [rightB, h5])
            clear h3
            go_enter Tryz.func27, Tryz.ntmps27
            go_wp2
            go_ret
            exact ⟨ret_bool HF.out.symm, HW.out⟩
      · have h3b : ((kc : Int) != n) = true := by simp [h3]
        have HF : Hid (rightB n ka kb kc M = false) := hid (by simp [rightB, h3])
        go_enter Tryz.func27, Tryz.ntmps27
        go_wp2
        go_ret
        exact ⟨ret_bool HF.out.symm, HW.out⟩

end Go.Proofs.YtmnlggmdomcajaaGreat
