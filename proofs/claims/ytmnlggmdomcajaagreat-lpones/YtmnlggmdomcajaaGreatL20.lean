/-
  Whether an answer holds: the document's own, the other kinds.
-/
import Derived.Test.YtmnlggmdomcajaaGreatL19
namespace Go.Proofs.YtmnlggmdomcajaaGreat
open Go.RowKit Lm
set_option linter.unusedSimpArgs false
set_option linter.unusedVariables false
set_option maxRecDepth 100000

theorem l2_eq {p : LPd} {a : Ansd} {nn : Nat} {b0 b1 b2 b3 b4 b5 : Bool} (h0 : (decide (a.ky = p.ka) && allB (fitB a.Y) a.ky) = b0) (h1 : (decide (a.ky = p.ka) && allB (zeroB (timesR (cols p.M nn) a.Y)) nn) = b1) (h2 : (decide (a.ky = p.kb) && (decide (cmpR (dotR a.Y p.B) 0 < 0))) = b2) (h3 : ((a.kx : Int) == 0) = b3) (h4 : ((a.kr : Int) == 0) = b4) (h5 : (cmpR a.V 0 == 0) = b5) : allB (l2B p a nn) 6 = (b0 && b1 && b2 && b3 && b4 && b5) := by
  subst h0 h1 h2 h3 h4 h5
  show ((((((true && _) && _) && _) && _) && _) && _) = _
  rfl
theorem l3_eq {p : LPd} {a : Ansd} {b0 b1 b2 b3 b4 : Bool} (h0 : withinB p.n p.ka p.kb p.kc p.M p.B a.X = b0) (h1 : (decide ((a.kr : Int) = p.n) && allB (downB (timesR p.M a.R)) p.ka) = b1) (h2 : (decide (p.kc = a.kr) && (decide (0 < cmpR (dotR p.C a.R) 0))) = b2) (h3 : ((a.ky : Int) == 0) = b3) (h4 : (cmpR a.V 0 == 0) = b4) : allB (l3B p a) 5 = (b0 && b1 && b2 && b3 && b4) := by
  subst h0 h1 h2 h3 h4
  show (((((true && _) && _) && _) && _) && _) = _
  rfl

set_option maxHeartbeats 6400000 in
theorem rHolds2_any (w : World) (p : LPd) (a : Ansd) (nn : Nat) (hp : p.At w) (ha : a.At w) (hnn : p.n = nn) (hR : rightB p.n p.ka p.kb p.kc p.M = true) (hkd : a.kd = 2) :
    Calls Tryz.prog 32 #[.agg #[.int .i64 p.n, .slice p.ao p.ka p.ca, .slice p.bo p.kb p.cb, .slice p.co p.kc p.cc], .agg #[.int .i64 a.kd, .bool a.n1, .slice a.a1 a.k1 a.c1, .bool a.n2, .slice a.a2 a.k2 a.c2, .slice a.xo a.kx a.cx, .slice a.yo a.ky a.cy, .slice a.ro a.kr a.cr]] w (Looked (allB (l2B p a nn) 6) w) := by
  have hW0 : Below w.heap.size w ((w.alloc (.cells #[.int .i64 p.n, .slice p.ao p.ka p.ca, .slice p.bo p.kb p.cb, .slice p.co p.kc p.cc] 43)).alloc (.cells #[.int .i64 a.kd, .bool a.n1, .slice a.a1 a.k1 a.c1, .bool a.n2, .slice a.a2 a.k2 a.c2, .slice a.xo a.kx a.cx, .slice a.yo a.ky a.cy, .slice a.ro a.kr a.cr] 46)) := (by repeat (first | exact Below.refl _ _ | refine Below.alloc ?_ ?_ _ | refine Below.setCell ?_ ?_ _ | refine Below.drew ?_ | refine below_drewN ?_ _ | (· simp) | omega | (· simp; omega) | exact Below.size (by assumption) | assumption | refine below_call ?_ (by assumption) ?_)); have bP : BoxL ((w.alloc (.cells #[.int .i64 p.n, .slice p.ao p.ka p.ca, .slice p.bo p.kb p.cb, .slice p.co p.kc p.cc] 43)).alloc (.cells #[.int .i64 a.kd, .bool a.n1, .slice a.a1 a.k1 a.c1, .bool a.n2, .slice a.a2 a.k2 a.c2, .slice a.xo a.kx a.cx, .slice a.yo a.ky a.cy, .slice a.ro a.kr a.cr] 46)) w.heap.size (.int .i64 p.n) (.slice p.ao p.ka p.ca) (.slice p.bo p.kb p.cb) (.slice p.co p.kc p.cc) := (BoxL.new w _ _ _ _ _ rfl).keep ((Below.refl _ _).alloc (Nat.le_refl _) _); have bA : BoxA ((w.alloc (.cells #[.int .i64 p.n, .slice p.ao p.ka p.ca, .slice p.bo p.kb p.cb, .slice p.co p.kc p.cc] 43)).alloc (.cells #[.int .i64 a.kd, .bool a.n1, .slice a.a1 a.k1 a.c1, .bool a.n2, .slice a.a2 a.k2 a.c2, .slice a.xo a.kx a.cx, .slice a.yo a.ky a.cy, .slice a.ro a.kr a.cr] 46)) (w.heap.size + 1) a := BoxA.new _ a _ (by simp); have HP := hid (hp.below hW0); have HA := hid (ha.below hW0); have HW := hid hW0; have fkx := ha.x.len.2; have fky := ha.y.len.2; have fkr := ha.r.len.2; have fkb := hp.b.len.2; have fkc := hp.c.len.2; clear hp ha hW0
  obtain ⟨r1, r2, r3, r4, r5, r6⟩ := rightB_iff.1 hR
  have HRR := hid hR
  have HNN := hid hnn
  have hk1 : (a.kd == 1) = false := by simp [hkd]
  have hk2 : (a.kd == 2) = true := by simp [hkd]
  have hkc60 : p.kc ≤ 60 := by omega
  have HR3 := hid r3
  have HR5 := hid r5
  clear hR hnn r6 hkd r3 r5
  go_enter Tryz.func32, Tryz.ntmps32
  obtain ⟨x0, x1, x2, x3⟩ := bP.c; have xl := bP.lt; obtain ⟨y0, y1, y2, y3, y4, y5, y6, y7⟩ := bA.c; have yl := bA.lt
  go_wp2_with fail
  clear x0 x1 x2 x3 xl y0 y1 y2 y3 y4 y5 y6 y7 yl
  generalize (w.alloc (.cells #[.int .i64 p.n, .slice p.ao p.ka p.ca, .slice p.bo p.kb p.cb, .slice p.co p.kc p.cc] 43)).alloc (.cells #[.int .i64 a.kd, .bool a.n1, .slice a.a1 a.k1 a.c1, .bool a.n2, .slice a.a2 a.k2 a.c2, .slice a.xo a.kx a.cx, .slice a.yo a.ky a.cy, .slice a.ro a.kr a.cr] 46) = W0 at *
  refine (rRight_any _ p.n p.ao p.bo p.co p.ka p.ca p.kb p.cb p.kc p.cc 6 p.M HP.out.k HP.out.a fkb fkc).mono ?_; rintro e w1 ⟨rfl, hb1⟩; rw [HRR.out]; have hW1 := below_call HW.out hb1 HW.out.size; replace bP := bP.keep hb1; replace bA := bA.keep hb1; replace HP := hid (HP.out.below hb1); replace HA := hid (HA.out.below hb1); clear hb1 HW
  obtain ⟨x0, x1, x2, x3⟩ := bP.c; have xl := bP.lt; obtain ⟨y0, y1, y2, y3, y4, y5, y6, y7⟩ := bA.c; have yl := bA.lt
  go_wp2_with fail
  clear x0 x1 x2 x3 xl y0 y1 y2 y3 y4 y5 y6 y7 yl
  refine (rduals_any _ p a.yo a.ky a.cy nn a.Y HP.out HA.out.y HRR.out HNN.out).mono ?_
  rintro e w2 (⟨hd, ro, rc, rfl, hQ, hb2⟩ | ⟨hd, rfl, hb2⟩)
  · have hW2 := below_call hW1 hb2 hW1.size
    replace bP := bP.keep hb2
    replace bA := bA.keep hb2
    replace HP := hid (HP.out.below hb2)
    replace HA := hid (HA.out.below hb2)
    have HQ := hid hQ
    have HD := hid hd
    clear hb2 hW1 hQ hd
    by_cases hkx : a.kx = 0
    · by_cases hkr : a.kr = 0
      · have hkx1 : ¬ (0 : Int) < (a.kx : Int) := by omega
        have hkr1 : ¬ (0 : Int) < (a.kr : Int) := by omega
        obtain ⟨x0, x1, x2, x3⟩ := bP.c; have xl := bP.lt; obtain ⟨y0, y1, y2, y3, y4, y5, y6, y7⟩ := bA.c; have yl := bA.lt
        go_wp2_with fail
        clear x0 x1 x2 x3 xl y0 y1 y2 y3 y4 y5 y6 y7 yl
        obtain ⟨z, hz⟩ : ∃ z, cmpR a.V 0 = z := ⟨_, rfl⟩
        have HZ := hid hz
        clear hz
        refine (rSign_any _ _ 6 a.V HA.out.v (by omega)).mono ?_
        rintro e w3 ⟨rfl, hb3⟩
        rw [HZ.out]
        have hW3 := below_call hW2 hb3 hW2.size
        replace bP := bP.keep hb3
        replace bA := bA.keep hb3
        replace HP := hid (HP.out.below hb3)
        replace HA := hid (HA.out.below hb3)
        replace HQ := hid (HQ.out.below hb3)
        clear hb3 hW2
        by_cases hz0 : z = 0
        · have hzb : (z != 0) = false := by simp [hz0]
          have HZ0 := hid hz0
          clear hz0
          obtain ⟨x0, x1, x2, x3⟩ := bP.c; have xl := bP.lt; obtain ⟨y0, y1, y2, y3, y4, y5, y6, y7⟩ := bA.c; have yl := bA.lt
          go_wp2_with fail
          clear x0 x1 x2 x3 xl y0 y1 y2 y3 y4 y5 y6 y7 yl
          refine (rdot_both _ _ _ a.ky p.kb _ _ 6 6 a.Y p.B HA.out.y HP.out.b (by omega) (by omega) (fun h => by have := HR5.out; omega)).mono ?_
          rintro e w4 (⟨hk, n1, a1, k1, c1, n2, a2, k2, c2, rfl, hI, hb⟩ | ⟨hk, rfl, hb⟩)
          · have hB1 := hb.alloc hb.size (.cells #[.bool n1, .slice a1 k1 c1, .bool n2, .slice a2 k2 c2] 26)
            have hW4 := below_call hW3 hB1 hW3.size
            have HI := hid (hI.below ((Below.refl _ _).alloc (Nat.le_refl _) (.cells #[.bool n1, .slice a1 k1 c1, .bool n2, .slice a2 k2 c2] 26)))
            have bV : Box4 (w4.alloc (.cells #[.bool n1, .slice a1 k1 c1, .bool n2, .slice a2 k2 c2] 26)) w4.heap.size (.bool n1) (.slice a1 k1 c1) (.bool n2) (.slice a2 k2 c2) := Box4.new _ _ _ _ _ _ rfl
            replace HQ := hid (HQ.out.below hB1)
            have HKY := hid hk
            have HKA : Hid (a.ky = p.ka) := hid (of_decide_eq_true (and2 HD.out).1)
            have hN : (6 + 6) * a.ky + 1 ≤ 5000 := by have := HKA.out; omega
            have HTL : Hid (nn = (timesR (cols p.M nn) a.Y).length) := hid (by rw [timesR_len, cols_len])
            have hnn64 : nn ≤ 9223372036854775807 := by have := HNN.out; omega
            clear hB1 hb hI hW3 hk bP bA HP HA
            go_wp2
            generalize w4.alloc (.cells #[.bool n1, .slice a1 k1 c1, .bool n2, .slice a2 k2 c2] 26) = W4 at *
            go_loopw [15] (fun iv wr => ∃ i : Nat, i ≤ nn ∧ iv = .int .i64 i ∧ allB (zeroB (timesR (cols p.M nn) a.Y)) i = true ∧ Below W4.heap.size W4 wr) (fun iv wr => nn - (intOf iv).toNat)
            case atStart => exact ⟨0, Nat.zero_le _, rfl, rfl, Below.refl _ _⟩
            case round =>
              obtain ⟨i, hik, rfl, hall, HBW⟩ := hrel
              have HALL := hid hall
              clear hall
              by_cases hlt : i < nn
              · have hi' : i < (timesR (cols p.M nn) a.Y).length := by rw [← HTL.out]; exact hlt
                obtain ⟨b1, o1, rfl, l1, hc⟩ := HQ.out.cellsAt (by omega)
                obtain ⟨n3, a3, k3, c3, n4, a4, k4, c4, hC, hX⟩ := hc i hi'
                obtain ⟨p1, p2, p3, p4⟩ := hC.below l1 HBW
                have HX := hid (hX.below HBW)
                obtain ⟨u, hu⟩ : ∃ u, cmpR (timesR (cols p.M nn) a.Y)[i] 0 = u := ⟨_, rfl⟩
                have HU : Hid (zeroB (timesR (cols p.M nn) a.Y) i = (u == 0)) := hid (by rw [zeroB, getD_at hi', hu])
                have HU0 := hid hu
                have HB := hid HBW
                clear hc hX hC hu HBW
                go_wp2_with fail
                refine (rSign_any _ _ _ (timesR (cols p.M nn) a.Y)[i] HX.out (by have := HKA.out; omega)).mono ?_
                rintro e w5 ⟨rfl, hb5⟩
                rw [HU0.out]
                have HB2 := hid (below_call HB.out hb5 HB.out.size)
                clear hb5
                by_cases hu0 : u = 0
                · have hub : (u != 0) = false := by simp [hu0]
                  have HN : Hid (allB (zeroB (timesR (cols p.M nn) a.Y)) (i + 1) = true) := hid (by rw [allB, HALL.out, HU.out, hu0]; rfl)
                  clear hu0
                  go_wp2
                  go_roundw
                  case rel => exact ⟨i + 1, by omega, by go_num, HN.out, HB2.out⟩
                  case measure => simp [intOf]; omega
                · have hub : (u != 0) = true := by simp [hu0]
                  have HF : Hid (allB (l2B p a nn) 6 = false) := hid (allB_no (i := 1) (by omega) (by
                    show (decide (a.ky = p.ka) && allB (zeroB (timesR (cols p.M nn) a.Y)) nn) = false
                    rw [allB_no hlt (by rw [HU.out]; simp [hu0]), Bool.and_false]))
                  have HR := hid (below_call hW4 HB2.out hW4.size)
                  clear hu0
                  go_wp2
                  go_ret
                  exact ⟨ret_bool HF.out.symm, HR.out⟩
              · have hke : i = nn := by omega
                subst hke
                obtain ⟨v0, v1, v2, v3⟩ := (bV.keep HBW).c
                have vl := (bV.keep HBW).lt
                have HI2 := hid (HI.out.below HBW)
                have HW5 := hid (below_call hW4 HBW hW4.size)
                clear HBW HI bV
                go_wp2_with fail
                clear v0 v1 v2 v3 vl
                obtain ⟨u, hu⟩ : ∃ u, cmpR (dotR a.Y p.B) 0 = u := ⟨_, rfl⟩
                have HU := hid hu
                clear hu
                refine (rSign_any _ _ _ (dotR a.Y p.B) HI2.out.arg hN).mono ?_
                rintro e w5 ⟨rfl, hb5⟩
                rw [HU.out]
                have HR := hid (below_call HW5.out hb5 HW5.out.size)
                have HF : Hid (allB (l2B p a i) 6 = decide (u < 0)) := hid (by
                  rw [l2_eq (b0 := true) (b1 := true) (b2 := decide (u < 0)) (b3 := true) (b4 := true) (b5 := true) HD.out (by rw [HALL.out, decide_eq_true HKA.out]; rfl) (by rw [decide_eq_true HKY.out, HU.out]; simp) (by simp [hkx]) (by simp [hkr]) (by rw [HZ.out, HZ0.out]; rfl)]
                  simp)
                clear hb5
                go_wp2
                go_ret
                exact ⟨ret_bool HF.out.symm, HR.out⟩
          · exact absurd (show a.ky = p.kb by have h1 := of_decide_eq_true (and2 HD.out).1; have h2 := HR5.out; omega) hk
        · have hzb : (z != 0) = true := by simp [hz0]
          have HF : Hid (allB (l2B p a nn) 6 = false) := hid (allB_no (i := 5) (by omega) (by show (cmpR a.V 0 == 0) = false; rw [HZ.out]; simp [hz0]))
          have HR := hid hW3
          clear hW3 hz0
          go_wp2
          go_ret
          exact ⟨ret_bool HF.out.symm, HR.out⟩
      · have hkx1 : ¬ (0 : Int) < (a.kx : Int) := by omega
        have hkr1 : (0 : Int) < (a.kr : Int) := by omega
        have HF : Hid (allB (l2B p a nn) 6 = false) := hid (allB_no (i := 4) (by omega) (by show ((a.kr : Int) == 0) = false; simp; omega))
        have HR := hid hW2
        clear hW2
        obtain ⟨x0, x1, x2, x3⟩ := bP.c; have xl := bP.lt; obtain ⟨y0, y1, y2, y3, y4, y5, y6, y7⟩ := bA.c; have yl := bA.lt
        go_wp2
        go_ret
        exact ⟨ret_bool HF.out.symm, HR.out⟩
    · have hkx1 : (0 : Int) < (a.kx : Int) := by omega
      have HF : Hid (allB (l2B p a nn) 6 = false) := hid (allB_no (i := 3) (by omega) (by show ((a.kx : Int) == 0) = false; simp; omega))
      have HR := hid hW2
      clear hW2
      obtain ⟨x0, x1, x2, x3⟩ := bP.c; have xl := bP.lt; obtain ⟨y0, y1, y2, y3, y4, y5, y6, y7⟩ := bA.c; have yl := bA.lt
      go_wp2
      go_ret
      exact ⟨ret_bool HF.out.symm, HR.out⟩
  · have HF : Hid (allB (l2B p a nn) 6 = false) := hid (allB_no (i := 0) (by omega) hd)
    have HR := hid (below_call hW1 hb2 hW1.size)
    clear hb2 hd hW1
    go_wp2
    go_ret
    exact ⟨ret_bool HF.out.symm, HR.out⟩

end Go.Proofs.YtmnlggmdomcajaaGreat
