/-
  Whether an answer holds: the document's own.
-/
import Derived.Test.YtmnlggmdomcajaaGreatL15
import Derived.Test.YtmnlggmdomcajaaGreatVD
namespace Go.Proofs.YtmnlggmdomcajaaGreat
open Go.RowKit Lm
set_option linter.unusedSimpArgs false
set_option linter.unusedVariables false
set_option maxRecDepth 100000

theorem rdot_both (w : World) (ao bo : Option Addr) (k1 k2 ca cb n m : Nat) (A B : List Rat) (hA : QSl w (.slice ao k1 ca) n A) (hB : QSl w (.slice bo k2 cb) m B) (hn : 1 ≤ n) (hm : 1 ≤ m) (hk : k1 = k2 → (n + m) * k1 ≤ 4000) :
    Calls Tryz.prog 34 #[.slice ao k1 ca, .slice bo k2 cb] w (DotSay w k1 k2 ((n + m) * k1 + 1) (dotR A B)) := by
  by_cases h : k1 = k2
  · subst h
    obtain ⟨h1, h2⟩ := qsl_at hA
    obtain ⟨h3, h4⟩ := qsl_at hB
    refine (rdot_any w ao bo k1 ca cb n m A B h1 h3 h2 h4 hn hm (hk rfl)).mono ?_
    rintro e w' ⟨n1, a1, j1, c1, n2, a2, j2, c2, rfl, hI, hb⟩
    exact .inl ⟨rfl, n1, a1, j1, c1, n2, a2, j2, c2, rfl, hI, hb⟩
  · refine (rdot_no w ao bo k1 k2 ca cb h hA.len.2 hB.len.2).mono ?_
    rintro e w' ⟨rfl, hb⟩
    exact .inr ⟨h, rfl, hb⟩
theorem even_dec {A B : List Rat} {nn : Nat} (h1 : A.length = nn) (h2 : B.length = nn) : allB (evenB A B) nn = decide (A = B) := by
  rw [Bool.eq_iff_iff, allB_iff, decide_eq_true_iff]
  constructor
  · intro h
    refine List.ext_getElem (by omega) (fun i hi hj => ?_)
    have := h i (by omega)
    unfold evenB at this
    rw [getD_at hi, getD_at hj] at this
    exact (cmpR_zero _ _).1 (by simpa using this)
  · rintro rfl i hi
    unfold evenB
    rw [(cmpR_zero _ _).2 rfl]
    rfl
theorem within_len {p : LPd} {X : List Rat} (h : withinB p.n p.ka p.kb p.kc p.M p.B X = true) : (X.length : Int) = p.n := by
  unfold withinB at h
  simp at h
  exact h.1.2
/-- The first kind, in the document's order. -/
theorem l1_eq {p : LPd} {a : Ansd} {nn : Nat} {b0 b1 b2 b3 b4 b5 : Bool} (h0 : withinB p.n p.ka p.kb p.kc p.M p.B a.X = b0) (h1 : (decide (a.ky = p.ka) && allB (fitB a.Y) a.ky) = b1) (h2 : (decide (a.ky = p.ka) && allB (evenB (timesR (cols p.M nn) a.Y) p.C) nn) = b2) (h3 : (decide (p.kc = a.kx) && (cmpR (dotR p.C a.X) a.V == 0)) = b3) (h4 : (decide (a.ky = p.kb) && (cmpR (dotR a.Y p.B) a.V == 0)) = b4) (h5 : ((a.kr : Int) == 0) = b5) : allB (l1B p a nn) 6 = (b0 && b1 && b2 && b3 && b4 && b5) := by
  subst h0 h1 h2 h3 h4 h5
  show ((((((true && _) && _) && _) && _) && _) && _) = _
  rfl

set_option maxHeartbeats 6400000 in
theorem rHolds1_any (w : World) (p : LPd) (a : Ansd) (nn : Nat) (hp : p.At w) (ha : a.At w) (hnn : p.n = nn) (hR : rightB p.n p.ka p.kb p.kc p.M = true) (hkd : a.kd = 1) :
    Calls Tryz.prog 32 #[.agg #[.int .i64 p.n, .slice p.ao p.ka p.ca, .slice p.bo p.kb p.cb, .slice p.co p.kc p.cc], .agg #[.int .i64 a.kd, .bool a.n1, .slice a.a1 a.k1 a.c1, .bool a.n2, .slice a.a2 a.k2 a.c2, .slice a.xo a.kx a.cx, .slice a.yo a.ky a.cy, .slice a.ro a.kr a.cr]] w (Looked (allB (l1B p a nn) 6) w) := by
  have hW0 : Below w.heap.size w ((w.alloc (.cells #[.int .i64 p.n, .slice p.ao p.ka p.ca, .slice p.bo p.kb p.cb, .slice p.co p.kc p.cc] 43)).alloc (.cells #[.int .i64 a.kd, .bool a.n1, .slice a.a1 a.k1 a.c1, .bool a.n2, .slice a.a2 a.k2 a.c2, .slice a.xo a.kx a.cx, .slice a.yo a.ky a.cy, .slice a.ro a.kr a.cr] 46)) := (by repeat (first | exact Below.refl _ _ | refine Below.alloc ?_ ?_ _ | refine Below.setCell ?_ ?_ _ | refine Below.drew ?_ | refine below_drewN ?_ _ | (· simp) | omega | (· simp; omega) | exact Below.size (by assumption) | assumption | refine below_call ?_ (by assumption) ?_)); have bP : BoxL ((w.alloc (.cells #[.int .i64 p.n, .slice p.ao p.ka p.ca, .slice p.bo p.kb p.cb, .slice p.co p.kc p.cc] 43)).alloc (.cells #[.int .i64 a.kd, .bool a.n1, .slice a.a1 a.k1 a.c1, .bool a.n2, .slice a.a2 a.k2 a.c2, .slice a.xo a.kx a.cx, .slice a.yo a.ky a.cy, .slice a.ro a.kr a.cr] 46)) w.heap.size (.int .i64 p.n) (.slice p.ao p.ka p.ca) (.slice p.bo p.kb p.cb) (.slice p.co p.kc p.cc) := (BoxL.new w _ _ _ _ _ rfl).keep ((Below.refl _ _).alloc (Nat.le_refl _) _); have bA : BoxA ((w.alloc (.cells #[.int .i64 p.n, .slice p.ao p.ka p.ca, .slice p.bo p.kb p.cb, .slice p.co p.kc p.cc] 43)).alloc (.cells #[.int .i64 a.kd, .bool a.n1, .slice a.a1 a.k1 a.c1, .bool a.n2, .slice a.a2 a.k2 a.c2, .slice a.xo a.kx a.cx, .slice a.yo a.ky a.cy, .slice a.ro a.kr a.cr] 46)) (w.heap.size + 1) a := BoxA.new _ a _ (by simp); have HP := hid (hp.below hW0); have HA := hid (ha.below hW0); have HW := hid hW0; have fkx := ha.x.len.2; have fky := ha.y.len.2; have fkr := ha.r.len.2; have fkb := hp.b.len.2; have fkc := hp.c.len.2; clear hp ha hW0
  obtain ⟨r1, r2, r3, r4, r5, r6⟩ := rightB_iff.1 hR
  have HRR := hid hR
  have HNN := hid hnn
  have HWD := hid r6
  have hk1 : (a.kd == 1) = true := by simp [hkd]
  have hkc60 : p.kc ≤ 60 := by omega
  have HR3 := hid r3
  have HR5 := hid r5
  clear hR hnn r6 hkd r3 r5
  go_enter Tryz.func32, Tryz.ntmps32
  obtain ⟨x0, x1, x2, x3⟩ := bP.c; have xl := bP.lt; obtain ⟨y0, y1, y2, y3, y4, y5, y6, y7⟩ := bA.c; have yl := bA.lt
  go_wp2_with fail
  clear x0 x1 x2 x3 xl y0 y1 y2 y3 y4 y5 y6 y7 yl
  generalize (w.alloc (.cells #[.int .i64 p.n, .slice p.ao p.ka p.ca, .slice p.bo p.kb p.cb, .slice p.co p.kc p.cc] 43)).alloc (.cells #[.int .i64 a.kd, .bool a.n1, .slice a.a1 a.k1 a.c1, .bool a.n2, .slice a.a2 a.k2 a.c2, .slice a.xo a.kx a.cx, .slice a.yo a.ky a.cy, .slice a.ro a.kr a.cr] 46) = W0 at *
  refine (rRight_any _ p.n p.ao p.bo p.co p.ka p.ca p.kb p.cb p.kc p.cc 6 p.M HP.out.k HP.out.a fkb fkc).mono ?_
  rintro e w1 ⟨rfl, hb1⟩
  rw [HRR.out]
  have hW1 := below_call HW.out hb1 HW.out.size
  replace bP := bP.keep hb1
  replace bA := bA.keep hb1
  replace HP := hid (HP.out.below hb1)
  replace HA := hid (HA.out.below hb1)
  clear hb1 HW
  obtain ⟨x0, x1, x2, x3⟩ := bP.c; have xl := bP.lt; obtain ⟨y0, y1, y2, y3, y4, y5, y6, y7⟩ := bA.c; have yl := bA.lt
  go_wp2_with fail
  clear x0 x1 x2 x3 xl y0 y1 y2 y3 y4 y5 y6 y7 yl
  refine (rduals_any _ p a.yo a.ky a.cy nn a.Y HP.out HA.out.y HRR.out HNN.out).mono ?_
  rintro e w2 (⟨hd, ro, rc, rfl, hQ, hb2⟩ | ⟨hd, rfl, hb2⟩)
  · have hW2 := below_call hW1 hb2 hW1.size
    replace bP := bP.keep hb2
    replace bA := bA.keep hb2
    replace HP := hid (HP.out.below hb2)
    replace HA := hid (HA.out.below hb2)
    have HQ := hid hQ
    have HD := hid hd
    clear hb2 hW1 hQ hd
    obtain ⟨x0, x1, x2, x3⟩ := bP.c; have xl := bP.lt; obtain ⟨y0, y1, y2, y3, y4, y5, y6, y7⟩ := bA.c; have yl := bA.lt
    go_wp2_with fail
    clear x0 x1 x2 x3 xl y0 y1 y2 y3 y4 y5 y6 y7 yl
    refine (rWithin_any _ p.n p.ao p.bo p.co a.xo p.ka p.ca p.kb p.cb p.kc p.cc a.kx a.cx 6 6 6 p.M p.B a.X HP.out.k HP.out.a HP.out.b fkc HA.out.x (by omega) (by omega) (by omega) (by omega)).mono ?_
    rintro e w3 ⟨rfl, hb3⟩
    have hW3 := below_call hW2 hb3 hW2.size
    replace bP := bP.keep hb3
    replace bA := bA.keep hb3
    replace HP := hid (HP.out.below hb3)
    replace HA := hid (HA.out.below hb3)
    replace HQ := hid (HQ.out.below hb3)
    clear hb3 hW2
    cases hwi : withinB p.n p.ka p.kb p.kc p.M p.B a.X
    · have HF : Hid (allB (l1B p a nn) 6 = false) := hid (allB_no (i := 0) (by omega) hwi)
      have HR := hid hW3
      clear hwi hW3
      go_wp2
      go_ret
      exact ⟨ret_bool HF.out.symm, HR.out⟩
    · have HWI := hid hwi
      clear hwi
      by_cases hkr : a.kr = 0
      · have hkr1 : ¬ (0 : Int) < (a.kr : Int) := by omega
        obtain ⟨x0, x1, x2, x3⟩ := bP.c; have xl := bP.lt; obtain ⟨y0, y1, y2, y3, y4, y5, y6, y7⟩ := bA.c; have yl := bA.lt
        go_wp2_with fail
        clear x0 x1 x2 x3 xl y0 y1 y2 y3 y4 y5 y6 y7 yl
        refine (rdot_both _ _ _ p.kc a.kx _ _ 6 6 p.C a.X HP.out.c HA.out.x (by omega) (by omega) (fun h => by omega)).mono ?_
        rintro e w4 (⟨hk, n1, a1, k1, c1, n2, a2, k2, c2, rfl, hI, hb⟩ | ⟨hk, rfl, hb⟩)
        · have hB1 := hb.alloc hb.size (.cells #[.bool n1, .slice a1 k1 c1, .bool n2, .slice a2 k2 c2] 26)
          have hW4 := below_call hW3 hB1 hW3.size
          have HI := hid (hI.below ((Below.refl _ _).alloc (Nat.le_refl _) (.cells #[.bool n1, .slice a1 k1 c1, .bool n2, .slice a2 k2 c2] 26)))
          have bV : Box4 (w4.alloc (.cells #[.bool n1, .slice a1 k1 c1, .bool n2, .slice a2 k2 c2] 26)) w4.heap.size (.bool n1) (.slice a1 k1 c1) (.bool n2) (.slice a2 k2 c2) := Box4.new _ _ _ _ _ _ rfl
          replace bP := bP.keep hB1
          replace bA := bA.keep hB1
          replace HP := hid (HP.out.below hB1)
          replace HA := hid (HA.out.below hB1)
          replace HQ := hid (HQ.out.below hB1)
          have HKX := hid hk
          clear hB1 hb hI hW3 hk
          obtain ⟨x0, x1, x2, x3⟩ := bP.c; have xl := bP.lt; obtain ⟨y0, y1, y2, y3, y4, y5, y6, y7⟩ := bA.c; have yl := bA.lt
          go_wp2_with fail
          clear x0 x1 x2 x3 xl y0 y1 y2 y3 y4 y5 y6 y7 yl
          generalize w4.alloc (.cells #[.bool n1, .slice a1 k1 c1, .bool n2, .slice a2 k2 c2] 26) = W4 at *
          refine (rdot_both _ _ _ a.ky p.kb _ _ 6 6 a.Y p.B HA.out.y HP.out.b (by omega) (by omega) (fun h => by have := HR5.out; omega)).mono ?_
          rintro e w5 (⟨hk, n3, a3, k3, c3, n4, a4, k4, c4, rfl, hI, hb⟩ | ⟨hk, rfl, hb⟩)
          · have hB1 := hb.alloc hb.size (.cells #[.bool n3, .slice a3 k3 c3, .bool n4, .slice a4 k4 c4] 26)
            have hW5 := below_call hW4 hB1 hW4.size
            have HJ := hid (hI.below ((Below.refl _ _).alloc (Nat.le_refl _) (.cells #[.bool n3, .slice a3 k3 c3, .bool n4, .slice a4 k4 c4] 26)))
            have bU : Box4 (w5.alloc (.cells #[.bool n3, .slice a3 k3 c3, .bool n4, .slice a4 k4 c4] 26)) w5.heap.size (.bool n3) (.slice a3 k3 c3) (.bool n4) (.slice a4 k4 c4) := Box4.new _ _ _ _ _ _ rfl
            replace bP := bP.keep hB1
            replace bA := bA.keep hB1
            replace bV := bV.keep hB1
            replace HI := hid (HI.out.below hB1)
            replace HP := hid (HP.out.below hB1)
            replace HA := hid (HA.out.below hB1)
            replace HQ := hid (HQ.out.below hB1)
            have HKY := hid hk
            clear hB1 hb hI hW4 hk
            obtain ⟨x0, x1, x2, x3⟩ := bP.c; have xl := bP.lt; obtain ⟨y0, y1, y2, y3, y4, y5, y6, y7⟩ := bA.c; have yl := bA.lt
            go_wp2_with fail
            clear x0 x1 x2 x3 xl y0 y1 y2 y3 y4 y5 y6 y7 yl
            generalize w5.alloc (.cells #[.bool n3, .slice a3 k3 c3, .bool n4, .slice a4 k4 c4] 26) = W5 at *
            refine (rats_any _ _ _ nn p.kc _ _ ((6 + 6) * p.ka + 1) 6 (timesR (cols p.M nn) a.Y) p.C HQ.out HP.out.c (by omega) (by omega)).mono ?_
            rintro e w6 ⟨rfl, hb⟩
            have hW6 := below_call hW5 hb hW5.size
            replace bA := bA.keep hb
            replace bV := bV.keep hb
            replace bU := bU.keep hb
            replace HI := hid (HI.out.below hb)
            replace HJ := hid (HJ.out.below hb)
            replace HP := hid (HP.out.below hb)
            replace HA := hid (HA.out.below hb)
            have HEV : Hid (allB (evenB (timesR (cols p.M nn) a.Y) p.C) nn = decide (timesR (cols p.M nn) a.Y = p.C)) := hid (even_dec (by rw [timesR_len, cols_len]) (by have h1 := HP.out.c.len.1; have h2 := HR3.out; have h3 := HNN.out; omega))
            have HKA : Hid (a.ky = p.ka) := hid (of_decide_eq_true (and2 HD.out).1)
            clear hb hW5 HQ bP
            by_cases hE : timesR (cols p.M nn) a.Y = p.C
            · rw [decide_eq_true hE]
              have HE := hid hE
              clear hE
              obtain ⟨v0, v1, v2, v3⟩ := bV.c
              have vl := bV.lt
              obtain ⟨y0, y1, y2, y3, y4, y5, y6, y7⟩ := bA.c
              have yl := bA.lt
              go_wp2_with fail
              clear v0 v1 v2 v3 vl y0 y1 y2 y3 y4 y5 y6 y7 yl
              obtain ⟨z, hz⟩ : ∃ z, cmpR (dotR p.C a.X) a.V = z := ⟨_, rfl⟩
              have HZ := hid hz
              clear hz
              refine (cmpRat_any _ _ _ _ 6 (dotR p.C a.X) a.V HI.out.arg HA.out.v (by have := HKX.out; omega) (by omega)).mono ?_
              rintro e w7 ⟨rfl, hb⟩
              rw [HZ.out]
              have hW7 := below_call hW6 hb hW6.size
              replace bA := bA.keep hb
              replace bU := bU.keep hb
              replace HJ := hid (HJ.out.below hb)
              replace HA := hid (HA.out.below hb)
              clear hb hW6 HI bV HP
              by_cases hz0 : z = 0
              · have hzb : (z == 0) = true := by simp [hz0]
                have HZ0 := hid hz0
                clear hz0
                obtain ⟨v0, v1, v2, v3⟩ := bU.c
                have vl := bU.lt
                obtain ⟨y0, y1, y2, y3, y4, y5, y6, y7⟩ := bA.c
                have yl := bA.lt
                go_wp2_with fail
                clear v0 v1 v2 v3 vl y0 y1 y2 y3 y4 y5 y6 y7 yl
                obtain ⟨u, hu⟩ : ∃ u, cmpR (dotR a.Y p.B) a.V = u := ⟨_, rfl⟩
                have HU := hid hu
                clear hu
                refine (cmpRat_any _ _ _ _ 6 (dotR a.Y p.B) a.V HJ.out.arg HA.out.v (by have := HKA.out; omega) (by omega)).mono ?_
                rintro e w8 ⟨rfl, hb⟩
                rw [HU.out]
                have HR := hid (below_call hW7 hb hW7.size)
                have HF : Hid (allB (l1B p a nn) 6 = (u == 0)) := hid (by
                  rw [l1_eq (b0 := true) (b1 := true) (b2 := true) (b3 := true) (b4 := (u == 0)) (b5 := true) HWI.out HD.out (by rw [HEV.out, decide_eq_true HE.out, decide_eq_true HKA.out]; rfl) (by rw [decide_eq_true HKX.out, HZ.out, HZ0.out]; rfl) (by rw [decide_eq_true HKY.out, HU.out]; simp) (by simp [hkr])]
                  simp)
                clear hb hW7
                go_wp2
                go_ret
                exact ⟨ret_bool HF.out.symm, HR.out⟩
              · have hzb : (z == 0) = false := by simp [hz0]
                have HF : Hid (allB (l1B p a nn) 6 = false) := hid (allB_no (i := 3) (by omega) (by show (decide (p.kc = a.kx) && (cmpR (dotR p.C a.X) a.V == 0)) = false; rw [HZ.out, hzb, Bool.and_false]))
                have HR := hid hW7
                clear hW7 hz0
                go_wp2
                go_ret
                exact ⟨ret_bool HF.out.symm, HR.out⟩
            · rw [decide_eq_false hE]
              have HF : Hid (allB (l1B p a nn) 6 = false) := hid (allB_no (i := 2) (by omega) (by show (decide (a.ky = p.ka) && allB (evenB (timesR (cols p.M nn) a.Y) p.C) nn) = false; rw [HEV.out, decide_eq_false hE, Bool.and_false]))
              have HR := hid hW6
              clear hW6 hE
              go_wp2
              go_ret
              exact ⟨ret_bool HF.out.symm, HR.out⟩
          · exact absurd (show a.ky = p.kb by have h1 := of_decide_eq_true (and2 HD.out).1; have h2 := HR5.out; omega) hk
        · exact absurd (show p.kc = a.kx by have h1 := within_len HWI.out; have h2 := HA.out.x.len.1; have h3 := HR3.out; omega) hk
      · have hkr1 : (0 : Int) < (a.kr : Int) := by omega
        have HF : Hid (allB (l1B p a nn) 6 = false) := hid (allB_no (i := 5) (by omega) (by show ((a.kr : Int) == 0) = false; simp; omega))
        have HR := hid hW3
        clear hW3
        obtain ⟨x0, x1, x2, x3⟩ := bP.c; have xl := bP.lt; obtain ⟨y0, y1, y2, y3, y4, y5, y6, y7⟩ := bA.c; have yl := bA.lt
        go_wp2
        go_ret
        exact ⟨ret_bool HF.out.symm, HR.out⟩
  · have HF : Hid (allB (l1B p a nn) 6 = false) := hid (allB_no (i := 1) (by omega) hd)
    have HR := hid (below_call hW1 hb2 hW1.size)
    clear hb2 hd hW1
    go_wp2
    go_ret
    exact ⟨ret_bool HF.out.symm, HR.out⟩

end Go.Proofs.YtmnlggmdomcajaaGreat
