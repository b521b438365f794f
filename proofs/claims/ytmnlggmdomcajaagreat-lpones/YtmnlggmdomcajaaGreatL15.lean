/-
  What the weights make: the document's own.
-/
import Derived.Test.YtmnlggmdomcajaaGreatL13
namespace Go.Proofs.YtmnlggmdomcajaaGreat
open Go.RowKit Lm
set_option linter.unusedSimpArgs false
set_option linter.unusedVariables false
set_option maxRecDepth 100000

def DualSay (w : World) (ky ka nn N : Nat) (Y : List Rat) (M : List (List Rat)) (e : Ending) (w' : World) : Prop :=
  ((decide (ky = ka) && allB (fitB Y) ky) = true ∧ ∃ ro rc, e = .returned (.tuple #[.slice ro nn rc, .bool true]) ∧ QSl w' (.slice ro nn rc) N (timesR (cols M nn) Y) ∧ Below w.heap.size w w') ∨
  ((decide (ky = ka) && allB (fitB Y) ky) = false ∧ e = .returned (.tuple #[.slice none 0 0, .bool false]) ∧ Below w.heap.size w w')

set_option maxHeartbeats 3200000 in
theorem rduals_any (w : World) (p : LPd) (yo : Option Addr) (ky cy nn : Nat) (Y : List Rat) (hp : p.At w) (hY : QSl w (.slice yo ky cy) 6 Y) (hR : rightB p.n p.ka p.kb p.kc p.M = true) (hnn : p.n = nn) :
    Calls Tryz.prog 77 #[.agg #[.int .i64 p.n, .slice p.ao p.ka p.ca, .slice p.bo p.kb p.cb, .slice p.co p.kc p.cc], .slice yo ky cy] w (DualSay w ky p.ka nn ((6 + 6) * p.ka + 1) Y p.M) := by
  have hW0 : Below w.heap.size w (w.alloc (.cells #[.int .i64 p.n, .slice p.ao p.ka p.ca, .slice p.bo p.kb p.cb, .slice p.co p.kc p.cc] 43)) := (by repeat (first | exact Below.refl _ _ | refine Below.alloc ?_ ?_ _ | refine Below.setCell ?_ ?_ _ | refine Below.drew ?_ | refine below_drewN ?_ _ | (· simp) | omega | (· simp; omega) | exact Below.size (by assumption) | assumption | refine below_call ?_ (by assumption) ?_))
  have bP : BoxL (w.alloc (.cells #[.int .i64 p.n, .slice p.ao p.ka p.ca, .slice p.bo p.kb p.cb, .slice p.co p.kc p.cc] 43)) w.heap.size (.int .i64 p.n) (.slice p.ao p.ka p.ca) (.slice p.bo p.kb p.cb) (.slice p.co p.kc p.cc) := BoxL.new w _ _ _ _ _ rfl
  obtain ⟨r1, r2, r3, r4, r5, r6⟩ := rightB_iff.1 hR
  obtain ⟨hkyl, hky64⟩ := hY.len
  have HKY := hid hkyl
  have HP := hid (hp.below hW0)
  have HY := hid (hY.below hW0)
  have HW := hid hW0
  have HWD := hid r6
  have HNN := hid hnn
  have hn1 : nn ≤ 1000 := by omega
  clear hp hY hW0 hR r6 r1 r2 r3 r5 hkyl hnn
  by_cases hk : ky = p.ka
  · subst hk
    have hkb : ((p.ka : Int) != (p.ka : Int)) = false := by simp
    go_enter Tryz.func77, Tryz.ntmps77
    obtain ⟨x0, x1, x2, x3⟩ := bP.c
    have xl := bP.lt
    go_wp2
    generalize w.alloc (.cells #[.int .i64 p.n, .slice p.ao p.ka p.ca, .slice p.bo p.kb p.cb, .slice p.co p.kc p.cc] 43) = W0 at *
    (try rw [hkb])
    clear x0 x1 x2 x3 xl
    go_loopw [6] (fun iv wr => ∃ i : Nat, i ≤ p.ka ∧ iv = .int .i64 i ∧ allB (fitB Y) i = true ∧ Below W0.heap.size W0 wr) (fun iv wr => p.ka - (intOf iv).toNat)
    case atStart => exact ⟨0, Nat.zero_le _, rfl, rfl, Below.refl _ _⟩
    case round =>
      obtain ⟨i, hik, rfl, hall, HBW⟩ := hrel
      have HALL := hid hall
      clear hall
      by_cases hlt : i < p.ka
      · have hi' : i < Y.length := by rw [← HKY.out]; exact hlt
        obtain ⟨b1, o1, rfl, l1, hc⟩ := HY.out.cellsAt (by omega)
        obtain ⟨n1, a1, k1, c1, n2, a2, k2, c2, hC, hX⟩ := hc i hi'
        obtain ⟨p1, p2, p3, p4⟩ := hC.below l1 HBW
        have HX := hid (hX.below HBW)
        obtain ⟨z, hz⟩ : ∃ z, cmpR Y[i] 0 = z := ⟨_, rfl⟩
        have HZ : Hid (fitB Y i = decide (0 ≤ z)) := hid (by rw [fitB, getD_at hi', hz])
        have HZ0 := hid hz
        have HB := hid HBW
        clear hc hX hC hz HBW
        go_wp2_with fail
        refine (rSign_any _ _ 6 Y[i] HX.out (by omega)).mono ?_
        rintro e w2 ⟨rfl, hb2⟩
        rw [HZ0.out]
        have HB2 := hid (below_call HB.out hb2 HB.out.size)
        clear hb2
        by_cases hz0 : z < 0
        · have HN : Hid ((decide (p.ka = p.ka) && allB (fitB Y) p.ka) = false) := hid (by rw [allB_no hlt (by rw [HZ.out, decide_eq_false (by omega)]), Bool.and_false])
          have HB3 := hid (below_call HW.out HB2.out HW.out.size)
          go_wp2
          refine bodyPost_ret (v := .tuple #[.slice none 0 0, .bool false]) ?_ rfl (.inr ⟨by have := HN.out; simpa using this, rfl, HB3.out⟩)
          simp [results, Tryz.results77, go_sem]
        · have HN : Hid (allB (fitB Y) (i + 1) = true) := hid (by rw [allB, HALL.out, HZ.out, decide_eq_true (by omega)]; rfl)
          go_wp2
          go_roundw
          case rel => exact ⟨i + 1, by omega, by go_num, HN.out, HB2.out⟩
          case measure => simp [intOf]; omega
      · have hke : i = p.ka := by omega
        subst hke
        have HN : Hid ((decide (p.ka = p.ka) && allB (fitB Y) p.ka) = true) := hid (by rw [HALL.out]; simp)
        have HWK : Hid (wide p.M (nn : Int) = true) := hid (by rw [← HNN.out]; exact HWD.out)
        obtain ⟨x0, x1, x2, x3⟩ := (bP.keep HBW).c
        have xl := (bP.keep HBW).lt
        have HB := hid HBW
        clear HBW
        go_wp2_with fail
        rw [HNN.out]
        refine (rleft_any _ yo p.ao p.ka cy p.ca nn 6 6 p.M Y HP.out.k (by omega) hn1 (HP.out.a.below HB.out) (HY.out.below HB.out) (by omega) (by omega) (by omega) (by omega) (by omega)).mono ?_
        rintro e w2 (⟨-, ro, rk, rc, rfl, hrk, hQ, hb2⟩ | ⟨hw, -⟩)
        · rw [timesR_len, cols_len] at hrk
          subst hrk
          have HQ := hid hQ.sl
          have HB2 := hid (below_call HW.out (below_call HB.out hb2 HB.out.size) HW.out.size)
          clear hQ hb2 x0 x1 x2 x3 xl
          go_wp2
          refine bodyPost_ret (v := .tuple #[.slice ro rk rc, .bool true]) ?_ rfl (.inl ⟨by have := HN.out; simpa using this, ro, rc, rfl, HQ.out, HB2.out⟩)
          simp [results, Tryz.results77, go_sem]
        · rw [HWK.out] at hw
          simp at hw
  · have hkb : ((ky : Int) != (p.ka : Int)) = true := by simp; omega
    have HF : Hid ((decide (ky = p.ka) && allB (fitB Y) ky) = false) := hid (by rw [decide_eq_false hk]; rfl)
    clear hk
    go_enter Tryz.func77, Tryz.ntmps77
    obtain ⟨x0, x1, x2, x3⟩ := bP.c
    have xl := bP.lt
    go_wp2
    refine bodyPost_ret (v := .tuple #[.slice none 0 0, .bool false]) ?_ rfl (.inr ⟨HF.out, rfl, HW.out⟩)
    simp [results, Tryz.results77, go_sem]

end Go.Proofs.YtmnlggmdomcajaaGreat
