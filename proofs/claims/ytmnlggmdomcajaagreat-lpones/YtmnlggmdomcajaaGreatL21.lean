/-
  Whether an answer holds: the document's own, the third kind, and all.
-/
import Derived.Test.YtmnlggmdomcajaaGreatL20
namespace Go.Proofs.YtmnlggmdomcajaaGreat
open Go.RowKit Lm
set_option linter.unusedSimpArgs false
set_option linter.unusedVariables false
set_option maxRecDepth 100000

set_option maxHeartbeats 6400000 in
theorem rHolds3_any (w : World) (p : LPd) (a : Ansd) (hp : p.At w) (ha : a.At w) (hR : rightB p.n p.ka p.kb p.kc p.M = true) (hkd : a.kd = 3) :
    Calls Tryz.prog 32 #[.agg #[.int .i64 p.n, .slice p.ao p.ka p.ca, .slice p.bo p.kb p.cb, .slice p.co p.kc p.cc], .agg #[.int .i64 a.kd, .bool a.n1, .slice a.a1 a.k1 a.c1, .bool a.n2, .slice a.a2 a.k2 a.c2, .slice a.xo a.kx a.cx, .slice a.yo a.ky a.cy, .slice a.ro a.kr a.cr]] w (Looked (allB (l3B p a) 5) w) := by
  have hW0 : Below w.heap.size w ((w.alloc (.cells #[.int .i64 p.n, .slice p.ao p.ka p.ca, .slice p.bo p.kb p.cb, .slice p.co p.kc p.cc] 43)).alloc (.cells #[.int .i64 a.kd, .bool a.n1, .slice a.a1 a.k1 a.c1, .bool a.n2, .slice a.a2 a.k2 a.c2, .slice a.xo a.kx a.cx, .slice a.yo a.ky a.cy, .slice a.ro a.kr a.cr] 46)) := (by repeat (first | exact Below.refl _ _ | refine Below.alloc ?_ ?_ _ | refine Below.setCell ?_ ?_ _ | refine Below.drew ?_ | refine below_drewN ?_ _ | (· simp) | omega | (· simp; omega) | exact Below.size (by assumption) | assumption | refine below_call ?_ (by assumption) ?_)); have bP : BoxL ((w.alloc (.cells #[.int .i64 p.n, .slice p.ao p.ka p.ca, .slice p.bo p.kb p.cb, .slice p.co p.kc p.cc] 43)).alloc (.cells #[.int .i64 a.kd, .bool a.n1, .slice a.a1 a.k1 a.c1, .bool a.n2, .slice a.a2 a.k2 a.c2, .slice a.xo a.kx a.cx, .slice a.yo a.ky a.cy, .slice a.ro a.kr a.cr] 46)) w.heap.size (.int .i64 p.n) (.slice p.ao p.ka p.ca) (.slice p.bo p.kb p.cb) (.slice p.co p.kc p.cc) := (BoxL.new w _ _ _ _ _ rfl).keep ((Below.refl _ _).alloc (Nat.le_refl _) _); have bA : BoxA ((w.alloc (.cells #[.int .i64 p.n, .slice p.ao p.ka p.ca, .slice p.bo p.kb p.cb, .slice p.co p.kc p.cc] 43)).alloc (.cells #[.int .i64 a.kd, .bool a.n1, .slice a.a1 a.k1 a.c1, .bool a.n2, .slice a.a2 a.k2 a.c2, .slice a.xo a.kx a.cx, .slice a.yo a.ky a.cy, .slice a.ro a.kr a.cr] 46)) (w.heap.size + 1) a := BoxA.new _ a _ (by simp); have HP := hid (hp.below hW0); have HA := hid (ha.below hW0); have HW := hid hW0; have fkx := ha.x.len.2; have fky := ha.y.len.2; have fkr := ha.r.len.2; have fkb := hp.b.len.2; have fkc := hp.c.len.2; clear hp ha hW0
  obtain ⟨r1, r2, r3, r4, r5, r6⟩ := rightB_iff.1 hR
  have HRR := hid hR
  have HWD := hid r6
  have hk1 : (a.kd == 1) = false := by simp [hkd]
  have hk2 : (a.kd == 2) = false := by simp [hkd]
  have hk3 : (a.kd == 3) = true := by simp [hkd]
  have hkc60 : p.kc ≤ 60 := by omega
  have HR3 := hid r3
  have HR5 := hid r5
  clear hR r6 hkd r3 r5
  go_enter Tryz.func32, Tryz.ntmps32
  obtain ⟨x0, x1, x2, x3⟩ := bP.c; have xl := bP.lt; obtain ⟨y0, y1, y2, y3, y4, y5, y6, y7⟩ := bA.c; have yl := bA.lt
  go_wp2_with fail
  clear x0 x1 x2 x3 xl y0 y1 y2 y3 y4 y5 y6 y7 yl
  generalize (w.alloc (.cells #[.int .i64 p.n, .slice p.ao p.ka p.ca, .slice p.bo p.kb p.cb, .slice p.co p.kc p.cc] 43)).alloc (.cells #[.int .i64 a.kd, .bool a.n1, .slice a.a1 a.k1 a.c1, .bool a.n2, .slice a.a2 a.k2 a.c2, .slice a.xo a.kx a.cx, .slice a.yo a.ky a.cy, .slice a.ro a.kr a.cr] 46) = W0 at *
  refine (rRight_any _ p.n p.ao p.bo p.co p.ka p.ca p.kb p.cb p.kc p.cc 6 p.M HP.out.k HP.out.a fkb fkc).mono ?_; rintro e w1 ⟨rfl, hb1⟩; rw [HRR.out]; have hW1 := below_call HW.out hb1 HW.out.size; replace bP := bP.keep hb1; replace bA := bA.keep hb1; replace HP := hid (HP.out.below hb1); replace HA := hid (HA.out.below hb1); clear hb1 HW
  obtain ⟨x0, x1, x2, x3⟩ := bP.c; have xl := bP.lt; obtain ⟨y0, y1, y2, y3, y4, y5, y6, y7⟩ := bA.c; have yl := bA.lt
  go_wp2_with fail
  clear x0 x1 x2 x3 xl y0 y1 y2 y3 y4 y5 y6 y7 yl
  refine (rWithin_any _ p.n p.ao p.bo p.co a.xo p.ka p.ca p.kb p.cb p.kc p.cc a.kx a.cx 6 6 6 p.M p.B a.X HP.out.k HP.out.a HP.out.b fkc HA.out.x (by omega) (by omega) (by omega) (by omega)).mono ?_
  rintro e w2 ⟨rfl, hb2⟩
  have hW2 := below_call hW1 hb2 hW1.size
  replace bP := bP.keep hb2
  replace bA := bA.keep hb2
  replace HP := hid (HP.out.below hb2)
  replace HA := hid (HA.out.below hb2)
  clear hb2 hW1
  cases hwi : withinB p.n p.ka p.kb p.kc p.M p.B a.X
  · have HF : Hid (allB (l3B p a) 5 = false) := hid (allB_no (i := 0) (by omega) hwi)
    have HR := hid hW2
    clear hwi hW2
    go_wp2
    go_ret
    exact ⟨ret_bool HF.out.symm, HR.out⟩
  · have HWI := hid hwi
    clear hwi
    by_cases hkr : (a.kr : Int) = p.n
    · have hkrb : ((a.kr : Int) != p.n) = false := by simp [hkr]
      have HKR := hid hkr
      have hkr60 : a.kr ≤ 60 := by omega
      clear hkr
      by_cases hky : a.ky = 0
      · have hky1 : ¬ (0 : Int) < (a.ky : Int) := by omega
        obtain ⟨x0, x1, x2, x3⟩ := bP.c; have xl := bP.lt; obtain ⟨y0, y1, y2, y3, y4, y5, y6, y7⟩ := bA.c; have yl := bA.lt
        go_wp2_with fail
        clear x0 x1 x2 x3 xl y0 y1 y2 y3 y4 y5 y6 y7 yl
        obtain ⟨z, hz⟩ : ∃ z, cmpR a.V 0 = z := ⟨_, rfl⟩
        have HZ := hid hz
        clear hz
        refine (rSign_any _ _ 6 a.V HA.out.v (by omega)).mono ?_
        rintro e w3 ⟨rfl, hb3⟩
        rw [HZ.out]
        have hW3 := below_call hW2 hb3 hW2.size
        replace bP := bP.keep hb3
        replace bA := bA.keep hb3
        replace HP := hid (HP.out.below hb3)
        replace HA := hid (HA.out.below hb3)
        clear hb3 hW2
        by_cases hz0 : z = 0
        · have hzb : (z != 0) = false := by simp [hz0]
          have HZ0 := hid hz0
          have HRL := hid HA.out.r.len.1
          clear hz0
          obtain ⟨x0, x1, x2, x3⟩ := bP.c; have xl := bP.lt; obtain ⟨y0, y1, y2, y3, y4, y5, y6, y7⟩ := bA.c; have yl := bA.lt
          go_wp2_with fail
          clear x0 x1 x2 x3 xl y0 y1 y2 y3 y4 y5 y6 y7 yl
          refine (rtimes_any _ p.ao a.ro p.ka p.ca a.kr a.cr 6 6 p.M a.R HP.out.k (by omega) HP.out.a HA.out.r (by omega) (by omega) (by omega)).mono ?_
          rintro e w4 (⟨-, ro, rk, rc, rfl, hrk, hQ, hb⟩ | ⟨hw, -⟩)
          · rw [timesR_len, ← HP.out.k] at hrk
            subst hrk
            have hW4 := below_call hW3 hb hW3.size
            replace bP := bP.keep hb
            replace bA := bA.keep hb
            replace HP := hid (HP.out.below hb)
            replace HA := hid (HA.out.below hb)
            have HQ := hid hQ.sl
            have HTL : Hid (p.ka = (timesR p.M a.R).length) := hid (by rw [timesR_len]; exact HP.out.k)
            clear hb hQ hW3
            go_wp2
            go_loopw [18] (fun iv wr => ∃ i : Nat, i ≤ p.ka ∧ iv = .int .i64 i ∧ allB (downB (timesR p.M a.R)) i = true ∧ Below w4.heap.size w4 wr) (fun iv wr => p.ka - (intOf iv).toNat)
            case atStart => exact ⟨0, Nat.zero_le _, rfl, rfl, Below.refl _ _⟩
            case round =>
              obtain ⟨i, hik, rfl, hall, HBW⟩ := hrel
              have HALL := hid hall
              clear hall
              by_cases hlt : i < p.ka
              · have hi' : i < (timesR p.M a.R).length := by rw [← HTL.out]; exact hlt
                obtain ⟨b1, o1, rfl, l1, hc⟩ := HQ.out.cellsAt (by omega)
                obtain ⟨n3, a3, k3, c3, n4, a4, k4, c4, hC, hX⟩ := hc i hi'
                obtain ⟨p1, p2, p3, p4⟩ := hC.below l1 HBW
                have HX := hid (hX.below HBW)
                obtain ⟨u, hu⟩ : ∃ u, cmpR (timesR p.M a.R)[i] 0 = u := ⟨_, rfl⟩
                have HU : Hid (downB (timesR p.M a.R) i = decide (u ≤ 0)) := hid (by rw [downB, getD_at hi', hu])
                have HU0 := hid hu
                have HB := hid HBW
                clear hc hX hC hu HBW
                go_wp2_with fail
                refine (rSign_any _ _ _ (timesR p.M a.R)[i] HX.out (by omega)).mono ?_
                rintro e w5 ⟨rfl, hb5⟩
                rw [HU0.out]
                have HB2 := hid (below_call HB.out hb5 HB.out.size)
                clear hb5
                by_cases hu0 : 0 < u
                · have HF : Hid (allB (l3B p a) 5 = false) := hid (allB_no (i := 1) (by omega) (by
                    show (decide ((a.kr : Int) = p.n) && allB (downB (timesR p.M a.R)) p.ka) = false
                    rw [allB_no hlt (by rw [HU.out, decide_eq_false (by omega)]), Bool.and_false]))
                  have HR := hid (below_call hW4 HB2.out hW4.size)
                  go_wp2
                  go_ret
                  exact ⟨ret_bool HF.out.symm, HR.out⟩
                · have HN : Hid (allB (downB (timesR p.M a.R)) (i + 1) = true) := hid (by rw [allB, HALL.out, HU.out, decide_eq_true (by omega)]; rfl)
                  go_wp2
                  go_roundw
                  case rel => exact ⟨i + 1, by omega, by go_num, HN.out, HB2.out⟩
                  case measure => simp [intOf]; omega
              · have hke : i = p.ka := by omega
                subst hke
                have hW5 := below_call hW4 HBW hW4.size
                replace bP := bP.keep HBW
                replace bA := bA.keep HBW
                replace HP := hid (HP.out.below HBW)
                replace HA := hid (HA.out.below HBW)
                clear HBW hW4 HQ
                obtain ⟨x0, x1, x2, x3⟩ := bP.c; have xl := bP.lt; obtain ⟨y0, y1, y2, y3, y4, y5, y6, y7⟩ := bA.c; have yl := bA.lt
                go_wp2_with fail
                clear x0 x1 x2 x3 xl y0 y1 y2 y3 y4 y5 y6 y7 yl
                refine (rdot_both _ _ _ p.kc a.kr _ _ 6 6 p.C a.R HP.out.c HA.out.r (by omega) (by omega) (fun h => by omega)).mono ?_
                rintro e w6 (⟨hk, n1, a1, k1, c1, n2, a2, k2, c2, rfl, hI, hb⟩ | ⟨hk, rfl, hb⟩)
                · have hB1 := hb.alloc hb.size (.cells #[.bool n1, .slice a1 k1 c1, .bool n2, .slice a2 k2 c2] 26)
                  have hW6 := below_call hW5 hB1 hW5.size
                  have HI := hid (hI.below ((Below.refl _ _).alloc (Nat.le_refl _) (.cells #[.bool n1, .slice a1 k1 c1, .bool n2, .slice a2 k2 c2] 26)))
                  have bV : Box4 (w6.alloc (.cells #[.bool n1, .slice a1 k1 c1, .bool n2, .slice a2 k2 c2] 26)) w6.heap.size (.bool n1) (.slice a1 k1 c1) (.bool n2) (.slice a2 k2 c2) := Box4.new _ _ _ _ _ _ rfl
                  have HKX := hid hk
                  obtain ⟨v0, v1, v2, v3⟩ := bV.c
                  have vl := bV.lt
                  clear hB1 hb hI hW5 hk bP bA HP HA bV
                  go_wp2_with fail
                  clear v0 v1 v2 v3 vl
                  generalize w6.alloc (.cells #[.bool n1, .slice a1 k1 c1, .bool n2, .slice a2 k2 c2] 26) = W6 at *
                  obtain ⟨u, hu⟩ : ∃ u, cmpR (dotR p.C a.R) 0 = u := ⟨_, rfl⟩
                  have HU := hid hu
                  clear hu
                  refine (rSign_any _ _ _ (dotR p.C a.R) HI.out.arg (by have := HKX.out; omega)).mono ?_
                  rintro e w7 ⟨rfl, hb7⟩
                  rw [HU.out]
                  have HR := hid (below_call hW6 hb7 hW6.size)
                  have HF : Hid (allB (l3B p a) 5 = decide (0 < u)) := hid (by
                    rw [l3_eq (b0 := true) (b1 := true) (b2 := decide (0 < u)) (b3 := true) (b4 := true) HWI.out (by rw [HALL.out, decide_eq_true HKR.out]; rfl) (by rw [decide_eq_true HKX.out, HU.out]; simp) (by simp [hky]) (by rw [HZ.out, HZ0.out]; rfl)]
                    simp)
                  clear hb7
                  go_wp2
                  go_ret
                  exact ⟨ret_bool HF.out.symm, HR.out⟩
                · exact absurd (show p.kc = a.kr by have h1 := HKR.out; have h3 := HR3.out; omega) hk
          · have h1 : wide p.M (a.R.length : Int) = true := by rw [← HRL.out, HKR.out]; exact HWD.out
            rw [h1] at hw
            simp at hw
        · have hzb : (z != 0) = true := by simp [hz0]
          have HF : Hid (allB (l3B p a) 5 = false) := hid (allB_no (i := 4) (by omega) (by show (cmpR a.V 0 == 0) = false; rw [HZ.out]; simp [hz0]))
          have HR := hid hW3
          clear hW3 hz0
          go_wp2
          go_ret
          exact ⟨ret_bool HF.out.symm, HR.out⟩
      · have hky1 : (0 : Int) < (a.ky : Int) := by omega
        have HF : Hid (allB (l3B p a) 5 = false) := hid (allB_no (i := 3) (by omega) (by show ((a.ky : Int) == 0) = false; simp; omega))
        have HR := hid hW2
        clear hW2
        obtain ⟨x0, x1, x2, x3⟩ := bP.c; have xl := bP.lt; obtain ⟨y0, y1, y2, y3, y4, y5, y6, y7⟩ := bA.c; have yl := bA.lt
        go_wp2
        go_ret
        exact ⟨ret_bool HF.out.symm, HR.out⟩
    · have hkrb : ((a.kr : Int) != p.n) = true := by simp [hkr]
      have HF : Hid (allB (l3B p a) 5 = false) := hid (allB_no (i := 1) (by omega) (by show (decide ((a.kr : Int) = p.n) && _) = false; rw [decide_eq_false hkr]; rfl))
      have HR := hid hW2
      clear hW2 hkr
      obtain ⟨x0, x1, x2, x3⟩ := bP.c; have xl := bP.lt; obtain ⟨y0, y1, y2, y3, y4, y5, y6, y7⟩ := bA.c; have yl := bA.lt
      go_wp2
      go_ret
      exact ⟨ret_bool HF.out.symm, HR.out⟩

set_option maxHeartbeats 3200000 in
theorem rHolds0_any (w : World) (p : LPd) (a : Ansd) (hp : p.At w) (ha : a.At w) (hN : rightB p.n p.ka p.kb p.kc p.M = false ∨ (a.kd ≠ 1 ∧ a.kd ≠ 2 ∧ a.kd ≠ 3)) :
    Calls Tryz.prog 32 #[.agg #[.int .i64 p.n, .slice p.ao p.ka p.ca, .slice p.bo p.kb p.cb, .slice p.co p.kc p.cc], .agg #[.int .i64 a.kd, .bool a.n1, .slice a.a1 a.k1 a.c1, .bool a.n2, .slice a.a2 a.k2 a.c2, .slice a.xo a.kx a.cx, .slice a.yo a.ky a.cy, .slice a.ro a.kr a.cr]] w (Looked false w) := by
  have hW0 : Below w.heap.size w ((w.alloc (.cells #[.int .i64 p.n, .slice p.ao p.ka p.ca, .slice p.bo p.kb p.cb, .slice p.co p.kc p.cc] 43)).alloc (.cells #[.int .i64 a.kd, .bool a.n1, .slice a.a1 a.k1 a.c1, .bool a.n2, .slice a.a2 a.k2 a.c2, .slice a.xo a.kx a.cx, .slice a.yo a.ky a.cy, .slice a.ro a.kr a.cr] 46)) := (by repeat (first | exact Below.refl _ _ | refine Below.alloc ?_ ?_ _ | refine Below.setCell ?_ ?_ _ | refine Below.drew ?_ | refine below_drewN ?_ _ | (· simp) | omega | (· simp; omega) | exact Below.size (by assumption) | assumption | refine below_call ?_ (by assumption) ?_)); have bP : BoxL ((w.alloc (.cells #[.int .i64 p.n, .slice p.ao p.ka p.ca, .slice p.bo p.kb p.cb, .slice p.co p.kc p.cc] 43)).alloc (.cells #[.int .i64 a.kd, .bool a.n1, .slice a.a1 a.k1 a.c1, .bool a.n2, .slice a.a2 a.k2 a.c2, .slice a.xo a.kx a.cx, .slice a.yo a.ky a.cy, .slice a.ro a.kr a.cr] 46)) w.heap.size (.int .i64 p.n) (.slice p.ao p.ka p.ca) (.slice p.bo p.kb p.cb) (.slice p.co p.kc p.cc) := (BoxL.new w _ _ _ _ _ rfl).keep ((Below.refl _ _).alloc (Nat.le_refl _) _); have bA : BoxA ((w.alloc (.cells #[.int .i64 p.n, .slice p.ao p.ka p.ca, .slice p.bo p.kb p.cb, .slice p.co p.kc p.cc] 43)).alloc (.cells #[.int .i64 a.kd, .bool a.n1, .slice a.a1 a.k1 a.c1, .bool a.n2, .slice a.a2 a.k2 a.c2, .slice a.xo a.kx a.cx, .slice a.yo a.ky a.cy, .slice a.ro a.kr a.cr] 46)) (w.heap.size + 1) a := BoxA.new _ a _ (by simp); have HP := hid (hp.below hW0); have HA := hid (ha.below hW0); have HW := hid hW0; have fkx := ha.x.len.2; have fky := ha.y.len.2; have fkr := ha.r.len.2; have fkb := hp.b.len.2; have fkc := hp.c.len.2; clear hp ha hW0
  go_enter Tryz.func32, Tryz.ntmps32
  obtain ⟨x0, x1, x2, x3⟩ := bP.c; have xl := bP.lt; obtain ⟨y0, y1, y2, y3, y4, y5, y6, y7⟩ := bA.c; have yl := bA.lt
  go_wp2_with fail
  clear x0 x1 x2 x3 xl y0 y1 y2 y3 y4 y5 y6 y7 yl
  generalize (w.alloc (.cells #[.int .i64 p.n, .slice p.ao p.ka p.ca, .slice p.bo p.kb p.cb, .slice p.co p.kc p.cc] 43)).alloc (.cells #[.int .i64 a.kd, .bool a.n1, .slice a.a1 a.k1 a.c1, .bool a.n2, .slice a.a2 a.k2 a.c2, .slice a.xo a.kx a.cx, .slice a.yo a.ky a.cy, .slice a.ro a.kr a.cr] 46) = W0 at *
  refine (rRight_any _ p.n p.ao p.bo p.co p.ka p.ca p.kb p.cb p.kc p.cc 6 p.M HP.out.k HP.out.a fkb fkc).mono ?_
  rintro e w1 ⟨rfl, hb1⟩
  have hW1 := below_call HW.out hb1 HW.out.size
  replace bP := bP.keep hb1
  replace bA := bA.keep hb1
  clear hb1 HW
  cases hR : rightB p.n p.ka p.kb p.kc p.M
  · have HR := hid hW1
    clear hW1 hR hN
    go_wp2
    go_ret
    exact ⟨rfl, HR.out⟩
  · rw [hR] at hN
    obtain ⟨h1, h2, h3⟩ : a.kd ≠ 1 ∧ a.kd ≠ 2 ∧ a.kd ≠ 3 := by simpa using hN
    have hk1 : (a.kd == 1) = false := by simp [h1]
    have hk2 : (a.kd == 2) = false := by simp [h2]
    have hk3 : (a.kd == 3) = false := by simp [h3]
    have HR := hid hW1
    clear hW1 hR hN h1 h2 h3
    obtain ⟨x0, x1, x2, x3⟩ := bP.c; have xl := bP.lt; obtain ⟨y0, y1, y2, y3, y4, y5, y6, y7⟩ := bA.c; have yl := bA.lt
    go_wp2
    go_ret
    exact ⟨rfl, HR.out⟩
theorem rHolds_any (w : World) (p : LPd) (a : Ansd) (hp : p.At w) (ha : a.At w) :
    Calls Tryz.prog 32 #[.agg #[.int .i64 p.n, .slice p.ao p.ka p.ca, .slice p.bo p.kb p.cb, .slice p.co p.kc p.cc], .agg #[.int .i64 a.kd, .bool a.n1, .slice a.a1 a.k1 a.c1, .bool a.n2, .slice a.a2 a.k2 a.c2, .slice a.xo a.kx a.cx, .slice a.yo a.ky a.cy, .slice a.ro a.kr a.cr]] w (Looked (holdsB p a p.n.toNat) w) := by
  unfold holdsB
  cases hR : rightB p.n p.ka p.kb p.kc p.M
  · exact rHolds0_any w p a hp ha (.inl hR)
  · have hnn : p.n = (p.n.toNat : Int) := by have := (rightB_iff.1 hR).1; omega
    rw [Bool.true_and]
    by_cases h1 : a.kd = 1
    · rw [if_pos h1]; exact rHolds1_any w p a _ hp ha hnn hR h1
    · rw [if_neg h1]
      by_cases h2 : a.kd = 2
      · rw [if_pos h2]; exact rHolds2_any w p a _ hp ha hnn hR h2
      · rw [if_neg h2]
        by_cases h3 : a.kd = 3
        · rw [if_pos h3]; exact rHolds3_any w p a hp ha hR h3
        · rw [if_neg h3]; exact rHolds0_any w p a hp ha (.inr ⟨h1, h2, h3⟩)

end Go.Proofs.YtmnlggmdomcajaaGreat
