/-
  The law LpOnes.
-/
import Derived.Test.YtmnlggmdomcajaaGreatL22
import Derived.Test.YtmnlggmdomcajaaGreatL16
namespace Go.Proofs.YtmnlggmdomcajaaGreat
open Go.RowKit Lm
set_option linter.unusedSimpArgs false
set_option linter.unusedVariables false
set_option maxRecDepth 100000

theorem point_on {p : LPd} {a : Ansd} {w : World} (hp : p.At w) (ha : a.At w) (h : holdsB p a p.n.toNat = true) (X : List Rat) (hX : withinB p.n p.ka p.kb p.kc p.M p.B X = true) : (a.kd == 2) = false ∧ (a.kd = 1 → ¬ 0 < cmpR (dotR p.C X) a.V) := by
  have hn := (rightB_iff.1 (holds_right h)).1
  obtain ⟨h1, h2⟩ := ones_point (fits_of (by omega) hp ha) h hX
  exact ⟨by simp [h1], fun hk => by have := h2 hk; omega⟩
theorem kinds_on {p : LPd} {a b : Ansd} {w : World} (hp : p.At w) (ha : a.At w) (hb : b.At w) (h : holdsB p a p.n.toNat = true) (g : holdsB p b p.n.toNat = true) : (a.kd != b.kd) = false ∧ cmpR a.V b.V = 0 := by
  have hn := (rightB_iff.1 (holds_right h)).1
  obtain ⟨h1, h2⟩ := ones_kind (fits_of (by omega) hp ha) (fits_of (by omega) hp hb) h g
  exact ⟨by simp [h1], h2⟩

set_option maxHeartbeats 6400000 in
theorem lpOnes_any (HAW : Awake5) (w : World) (p : LPd) (a b : Ansd) (xo : Option Addr) (kx cx : Nat) (LX : List RQ) {LM : List (List RQ)} {LB LC : List RQ} {q : RQ} {LX1 LY LR : List RQ} {q2 : RQ} {LX2 LY2 LR2 : List RQ} (hp : p.Raw LM LB LC w) (ha : a.Raw q LX1 LY LR w) (hb : b.Raw q2 LX2 LY2 LR2 w) (hkx : kx = LX.length) (hX : RawRow w xo cx LX) :
    Calls Tryz.prog 6 #[.agg #[.int .i64 p.n, .slice p.ao p.ka p.ca, .slice p.bo p.kb p.cb, .slice p.co p.kc p.cc], .agg #[.int .i64 a.kd, .bool a.n1, .slice a.a1 a.k1 a.c1, .bool a.n2, .slice a.a2 a.k2 a.c2, .slice a.xo a.kx a.cx, .slice a.yo a.ky a.cy, .slice a.ro a.kr a.cr], .agg #[.int .i64 b.kd, .bool b.n1, .slice b.a1 b.k1 b.c1, .bool b.n2, .slice b.a2 b.k2 b.c2, .slice b.xo b.kx b.cx, .slice b.yo b.ky b.cy, .slice b.ro b.kr b.cr], .slice xo kx cx] w fun e w' => e = .returned (.bool true) ∧ Below w.heap.size w w' := by
  have hW0 : Below w.heap.size w (((w.alloc (.cells #[.int .i64 p.n, .slice p.ao p.ka p.ca, .slice p.bo p.kb p.cb, .slice p.co p.kc p.cc] 43)).alloc (.cells #[.int .i64 a.kd, .bool a.n1, .slice a.a1 a.k1 a.c1, .bool a.n2, .slice a.a2 a.k2 a.c2, .slice a.xo a.kx a.cx, .slice a.yo a.ky a.cy, .slice a.ro a.kr a.cr] 46)).alloc (.cells #[.int .i64 b.kd, .bool b.n1, .slice b.a1 b.k1 b.c1, .bool b.n2, .slice b.a2 b.k2 b.c2, .slice b.xo b.kx b.cx, .slice b.yo b.ky b.cy, .slice b.ro b.kr b.cr] 46)) := (by repeat (first | exact Below.refl _ _ | refine Below.alloc ?_ ?_ _ | refine Below.setCell ?_ ?_ _ | refine Below.drew ?_ | refine below_drewN ?_ _ | (· simp) | omega | (· simp; omega) | exact Below.size (by assumption) | assumption | refine below_call ?_ (by assumption) ?_))
  have bP : BoxL (((w.alloc (.cells #[.int .i64 p.n, .slice p.ao p.ka p.ca, .slice p.bo p.kb p.cb, .slice p.co p.kc p.cc] 43)).alloc (.cells #[.int .i64 a.kd, .bool a.n1, .slice a.a1 a.k1 a.c1, .bool a.n2, .slice a.a2 a.k2 a.c2, .slice a.xo a.kx a.cx, .slice a.yo a.ky a.cy, .slice a.ro a.kr a.cr] 46)).alloc (.cells #[.int .i64 b.kd, .bool b.n1, .slice b.a1 b.k1 b.c1, .bool b.n2, .slice b.a2 b.k2 b.c2, .slice b.xo b.kx b.cx, .slice b.yo b.ky b.cy, .slice b.ro b.kr b.cr] 46)) w.heap.size (.int .i64 p.n) (.slice p.ao p.ka p.ca) (.slice p.bo p.kb p.cb) (.slice p.co p.kc p.cc) := (BoxL.new w _ _ _ _ _ rfl).keep (((Below.refl _ _).alloc (Nat.le_refl _) _).alloc (by simp) _)
  have bA : BoxA (((w.alloc (.cells #[.int .i64 p.n, .slice p.ao p.ka p.ca, .slice p.bo p.kb p.cb, .slice p.co p.kc p.cc] 43)).alloc (.cells #[.int .i64 a.kd, .bool a.n1, .slice a.a1 a.k1 a.c1, .bool a.n2, .slice a.a2 a.k2 a.c2, .slice a.xo a.kx a.cx, .slice a.yo a.ky a.cy, .slice a.ro a.kr a.cr] 46)).alloc (.cells #[.int .i64 b.kd, .bool b.n1, .slice b.a1 b.k1 b.c1, .bool b.n2, .slice b.a2 b.k2 b.c2, .slice b.xo b.kx b.cx, .slice b.yo b.ky b.cy, .slice b.ro b.kr b.cr] 46)) (w.heap.size + 1) a := (BoxA.new (w.alloc (.cells #[.int .i64 p.n, .slice p.ao p.ka p.ca, .slice p.bo p.kb p.cb, .slice p.co p.kc p.cc] 43)) a _ (by simp)).keep ((Below.refl _ _).alloc (Nat.le_refl _) _)
  have bB : BoxA (((w.alloc (.cells #[.int .i64 p.n, .slice p.ao p.ka p.ca, .slice p.bo p.kb p.cb, .slice p.co p.kc p.cc] 43)).alloc (.cells #[.int .i64 a.kd, .bool a.n1, .slice a.a1 a.k1 a.c1, .bool a.n2, .slice a.a2 a.k2 a.c2, .slice a.xo a.kx a.cx, .slice a.yo a.ky a.cy, .slice a.ro a.kr a.cr] 46)).alloc (.cells #[.int .i64 b.kd, .bool b.n1, .slice b.a1 b.k1 b.c1, .bool b.n2, .slice b.a2 b.k2 b.c2, .slice b.xo b.kx b.cx, .slice b.yo b.ky b.cy, .slice b.ro b.kr b.cr] 46)) (w.heap.size + 1 + 1) b := BoxA.new _ b _ (by simp)
  have HP := hid (hp.below hW0)
  have HA := hid (ha.below hW0)
  have HB := hid (hb.below hW0)
  have HX := hid (pointA_raw hkx (hX.below hW0))
  have HW := hid hW0
  clear hp ha hb hX hkx hW0
  go_enter Tryz.func6, Tryz.ntmps6
  obtain ⟨x0, x1, x2, x3⟩ := bP.c; have xl := bP.lt
  obtain ⟨y0, y1, y2, y3, y4, y5, y6, y7⟩ := bA.c; have yl := bA.lt
  go_wp2_with fail
  clear x0 x1 x2 x3 xl
  clear y0 y1 y2 y3 y4 y5 y6 y7 yl
  generalize (((w.alloc (.cells #[.int .i64 p.n, .slice p.ao p.ka p.ca, .slice p.bo p.kb p.cb, .slice p.co p.kc p.cc] 43)).alloc (.cells #[.int .i64 a.kd, .bool a.n1, .slice a.a1 a.k1 a.c1, .bool a.n2, .slice a.a2 a.k2 a.c2, .slice a.xo a.kx a.cx, .slice a.yo a.ky a.cy, .slice a.ro a.kr a.cr] 46)).alloc (.cells #[.int .i64 b.kd, .bool b.n1, .slice b.a1 b.k1 b.c1, .bool b.n2, .slice b.a2 b.k2 b.c2, .slice b.xo b.kx b.cx, .slice b.yo b.ky b.cy, .slice b.ro b.kr b.cr] 46)) = W0 at *
  refine (great5_any _ p a _ _ _ _ _ _ _ HP.out HA.out).mono ?_
  rintro e w1 ⟨c, rfl, hb1, hsm⟩
  have hW1 := below_call HW.out hb1 HW.out.size
  replace bP := bP.keep hb1
  replace bA := bA.keep hb1
  replace bB := bB.keep hb1
  cases c
  · obtain ⟨hp1, ha1⟩ := hsm rfl
    replace HP := hid (HP.out.below hb1)
    replace HB := hid (HB.out.below hb1)
    replace HX := hid (HX.out.below hb1)
    have GA := hid ha1
    clear hp1 ha1 hsm hb1 HW HA
    obtain ⟨x0, x1, x2, x3⟩ := bP.c; have xl := bP.lt
    obtain ⟨z0, z1, z2, z3, z4, z5, z6, z7⟩ := bB.c; have zl := bB.lt
    go_wp2_with fail
    clear x0 x1 x2 x3 xl
    clear z0 z1 z2 z3 z4 z5 z6 z7 zl
    refine (great5_any _ p b _ _ _ _ _ _ _ HP.out HB.out).mono ?_
    rintro e w2 ⟨c, rfl, hb2, hsm⟩
    have hW2 := below_call hW1 hb2 hW1.size
    replace bP := bP.keep hb2
    replace bA := bA.keep hb2
    replace bB := bB.keep hb2
    cases c
    · obtain ⟨hp1, ha1⟩ := hsm rfl
      replace HP := hid (HP.out.below hb2)
      replace GA := hid (GA.out.below hb2)
      replace HX := hid (HX.out.below hb2)
      have GB := hid ha1
      clear hp1 ha1 hsm hb2 HB hW1
      obtain ⟨x0, x1, x2, x3⟩ := bP.c; have xl := bP.lt
      go_wp2_with fail
      clear x0 x1 x2 x3 xl
      refine (great5_any _ p (pointA xo kx cx (LX.map RQ.r)) _ _ _ _ _ _ _ HP.out HX.out).mono ?_
      rintro e w3 ⟨c, rfl, hb3, hsm⟩
      have hW3 := below_call hW2 hb3 hW2.size
      replace bP := bP.keep hb3
      replace bA := bA.keep hb3
      replace bB := bB.keep hb3
      cases c
      · obtain ⟨hp1, ha1⟩ := hsm rfl
        replace GA := hid (GA.out.below hb3)
        replace GB := hid (GB.out.below hb3)
        have GP := hid hp1
        have GX : Hid (QSl w3 (.slice xo kx cx) 6 (LX.map RQ.r)) := hid ha1.x
        have fkb := hp1.b.len.2
        have fkc := hp1.c.len.2
        have fkx := GX.out.len.2
        clear hp1 ha1 hsm hb3 HP HX hW2
        obtain ⟨x0, x1, x2, x3⟩ := bP.c; have xl := bP.lt
        obtain ⟨y0, y1, y2, y3, y4, y5, y6, y7⟩ := bA.c; have yl := bA.lt
        obtain ⟨z0, z1, z2, z3, z4, z5, z6, z7⟩ := bB.c; have zl := bB.lt
        have HBW : Below w3.heap.size w3 w3.drew := (Below.refl _ _).drew
        obtain ⟨f, hf⟩ : ∃ f, holdsB p a p.n.toNat = f := ⟨_, rfl⟩
        obtain ⟨g, hg⟩ : ∃ g, holdsB p b p.n.toNat = g := ⟨_, rfl⟩
        have HF := hid hf
        have HG := hid hg
        clear hf hg
        go_wp2_with fail
        go_region_held3 (fun W' => (W'.cell? ⟨w.heap.size, 0, none⟩ = some (.int .i64 p.n) ∧ W'.cell? ⟨w.heap.size, 1, none⟩ = some (.slice p.ao p.ka p.ca) ∧ W'.cell? ⟨w.heap.size, 2, none⟩ = some (.slice p.bo p.kb p.cb) ∧ W'.cell? ⟨w.heap.size, 3, none⟩ = some (.slice p.co p.kc p.cc)) ∧ (W'.cell? ⟨w.heap.size + 1, 0, none⟩ = some (.int .i64 a.kd) ∧ W'.cell? ⟨w.heap.size + 1, 1, none⟩ = some (.bool a.n1) ∧ W'.cell? ⟨w.heap.size + 1, 2, none⟩ = some (.slice a.a1 a.k1 a.c1) ∧ W'.cell? ⟨w.heap.size + 1, 3, none⟩ = some (.bool a.n2) ∧ W'.cell? ⟨w.heap.size + 1, 4, none⟩ = some (.slice a.a2 a.k2 a.c2) ∧ W'.cell? ⟨w.heap.size + 1, 5, none⟩ = some (.slice a.xo a.kx a.cx) ∧ W'.cell? ⟨w.heap.size + 1, 6, none⟩ = some (.slice a.yo a.ky a.cy) ∧ W'.cell? ⟨w.heap.size + 1, 7, none⟩ = some (.slice a.ro a.kr a.cr)) ∧ W'.cell? ⟨w.heap.size + 1 + 1, 0, none⟩ = some (.int .i64 b.kd) ∧ W'.cell? ⟨w.heap.size + 1 + 1, 1, none⟩ = some (.bool b.n1) ∧ W'.cell? ⟨w.heap.size + 1 + 1, 2, none⟩ = some (.slice b.a1 b.k1 b.c1) ∧ W'.cell? ⟨w.heap.size + 1 + 1, 3, none⟩ = some (.bool b.n2) ∧ W'.cell? ⟨w.heap.size + 1 + 1, 4, none⟩ = some (.slice b.a2 b.k2 b.c2) ∧ W'.cell? ⟨w.heap.size + 1 + 1, 5, none⟩ = some (.slice b.xo b.kx b.cx) ∧ W'.cell? ⟨w.heap.size + 1 + 1, 6, none⟩ = some (.slice b.yo b.ky b.cy) ∧ W'.cell? ⟨w.heap.size + 1 + 1, 7, none⟩ = some (.slice b.ro b.kr b.cr)) (exact ⟨(bP.keep HBW).c, (bA.keep HBW).c, (bB.keep HBW).c⟩) (first
          | (go_at_call 31; go_must (refine (holdsC_any _ p _ (GP.out.below HBW) (by first | exact GA.out.below HBW | exact GB.out.below HBW)).mono ?_); rintro e wn ⟨rfl, hb⟩; (first | rw [HF.out] | rw [HG.out]); have HBn := below_call HBW hb HBW.size; clear HBW hb; have HBW := HBn; clear HBn))
        have hW4 := below_call hW3 HBW hW3.size
        replace bP := bP.keep HBW
        replace bA := bA.keep HBW
        replace bB := bB.keep HBW
        replace GP := hid (GP.out.below HBW)
        replace GA := hid (GA.out.below HBW)
        replace GB := hid (GB.out.below HBW)
        replace GX := hid (GX.out.below HBW)
        clear HBW hW3 x0 x1 x2 x3 xl y0 y1 y2 y3 y4 y5 y6 y7 yl z0 z1 z2 z3 z4 z5 z6 z7 zl
        cases f
        · clear HF HG
          go_wp2_with fail
          refine (HAW _).mono ?_
          rintro e wz ⟨rfl, hbz⟩
          have HR := hid (below_call hW4 hbz hW4.size)
          clear hbz
          go_wp2
          go_ret
          exact ⟨rfl, HR.out⟩
        · cases g
          · clear HG GB bB
            obtain ⟨x0, x1, x2, x3⟩ := bP.c; have xl := bP.lt
            go_wp2_with fail
            clear x0 x1 x2 x3 xl
            refine (lpWithin_any _ p.n p.ao p.bo p.co xo p.ka p.ca p.kb p.cb p.kc p.cc kx cx 6 6 6 p.M p.B (LX.map RQ.r) GP.out.k GP.out.a GP.out.b fkc GX.out (by omega) (by omega) (by omega) (by omega)).mono ?_
            rintro e w5 ⟨rfl, hb5⟩
            have hW5 := below_call hW4 hb5 hW4.size
            replace bP := bP.keep hb5
            replace bA := bA.keep hb5
            replace GP := hid (GP.out.below hb5)
            replace GA := hid (GA.out.below hb5)
            replace GX := hid (GX.out.below hb5)
            clear hb5 hW4
            cases hwi : withinB p.n p.ka p.kb p.kc p.M p.B (LX.map RQ.r)
            · clear hwi
              go_wp2_with fail
              refine (HAW _).mono ?_
              rintro e wz ⟨rfl, hbz⟩
              have HR := hid (below_call hW5 hbz hW5.size)
              clear hbz
              go_wp2
              go_ret
              exact ⟨rfl, HR.out⟩
            · have HPT := hid (point_on GP.out GA.out HF.out (LX.map RQ.r) hwi)
              have HKC : Hid (p.kc = kx ∧ p.kc ≤ 60) := hid (by
                have h1 := rightB_iff.1 (and2 (and2 hwi).1).1
                have h2 := within_len hwi
                have h3 := GX.out.len.1
                omega)
              clear hwi
              obtain ⟨x0, x1, x2, x3⟩ := bP.c; have xl := bP.lt
              go_wp2_with fail
              clear x0 x1 x2 x3 xl
              refine (rdot_both _ _ _ p.kc kx _ _ 6 6 p.C (LX.map RQ.r) GP.out.c GX.out (by omega) (by omega) (fun h => by have := HKC.out.2; omega)).mono ?_
              rintro e w6 (⟨hk, n1, a1, k1, c1, n2, a2, k2, c2, rfl, hI, hb⟩ | ⟨hk, rfl, hb⟩)
              · have hB1 := hb.alloc hb.size (.cells #[.bool n1, .slice a1 k1 c1, .bool n2, .slice a2 k2 c2] 26)
                have hW6 := below_call hW5 hB1 hW5.size
                have HI := hid (hI.below ((Below.refl _ _).alloc (Nat.le_refl _) (.cells #[.bool n1, .slice a1 k1 c1, .bool n2, .slice a2 k2 c2] 26)))
                have bV : Box4 (w6.alloc (.cells #[.bool n1, .slice a1 k1 c1, .bool n2, .slice a2 k2 c2] 26)) w6.heap.size (.bool n1) (.slice a1 k1 c1) (.bool n2) (.slice a2 k2 c2) := Box4.new _ _ _ _ _ _ rfl
                replace bA := bA.keep hB1
                replace GA := hid (GA.out.below hB1)
                have hk2 := HPT.out.1
                clear hB1 hb hI hW5 hk
                obtain ⟨v0, v1, v2, v3⟩ := bV.c
                have vl := bV.lt
                obtain ⟨y0, y1, y2, y3, y4, y5, y6, y7⟩ := bA.c; have yl := bA.lt
                by_cases hk1 : a.kd = 1
                · have hk1b : (a.kd == 1) = true := by simp [hk1]
                  have HLE := hid (HPT.out.2 hk1)
                  clear hk1
                  go_wp2_with fail
                  clear y0 y1 y2 y3 y4 y5 y6 y7 yl
                  clear v0 v1 v2 v3 vl
                  generalize w6.alloc (.cells #[.bool n1, .slice a1 k1 c1, .bool n2, .slice a2 k2 c2] 26) = W6 at *
                  obtain ⟨u, hu⟩ : ∃ u, cmpR (dotR p.C (LX.map RQ.r)) a.V = u := ⟨_, rfl⟩
                  have HU := hid hu
                  have hu0 : ¬ 0 < u := by rw [← hu]; have := HLE.out; omega
                  clear hu
                  refine (cmpRat_any _ _ _ _ 6 (dotR p.C (LX.map RQ.r)) a.V HI.out.arg GA.out.v (by have := HKC.out.2; omega) (by omega)).mono ?_
                  rintro e w7 ⟨rfl, hb7⟩
                  rw [HU.out]
                  have hW7 := below_call hW6 hb7 hW6.size
                  clear hb7 hW6
                  go_wp2_with fail
                  refine (HAW _).mono ?_
                  rintro e wz ⟨rfl, hbz⟩
                  have HR := hid (below_call hW7 hbz hW7.size)
                  clear hbz
                  go_wp2
                  go_ret
                  exact ⟨rfl, HR.out⟩
                · have hk1b : (a.kd == 1) = false := by simp [hk1]
                  clear hk1
                  go_wp2_with fail
                  refine (HAW _).mono ?_
                  rintro e wz ⟨rfl, hbz⟩
                  have HR := hid (below_call hW6 hbz hW6.size)
                  clear hbz
                  go_wp2
                  go_ret
                  exact ⟨rfl, HR.out⟩
              · exact absurd HKC.out.1 hk
          · have HKI := hid (kinds_on GP.out GA.out GB.out HF.out HG.out)
            have hkd := HKI.out.1
            obtain ⟨y0, y1, y2, y3, y4, y5, y6, y7⟩ := bA.c; have yl := bA.lt
            obtain ⟨z0, z1, z2, z3, z4, z5, z6, z7⟩ := bB.c; have zl := bB.lt
            go_wp2_with fail
            clear y0 y1 y2 y3 y4 y5 y6 y7 yl
            clear z0 z1 z2 z3 z4 z5 z6 z7 zl
            clear hkd
            refine (cmpRat_any _ _ _ 6 6 a.V b.V GA.out.v GB.out.v (by omega) (by omega)).mono ?_
            rintro e w5 ⟨rfl, hb5⟩
            rw [HKI.out.2]
            have hW5 := below_call hW4 hb5 hW4.size
            replace bP := bP.keep hb5
            replace bA := bA.keep hb5
            replace GP := hid (GP.out.below hb5)
            replace GA := hid (GA.out.below hb5)
            replace GX := hid (GX.out.below hb5)
            clear hb5 hW4 HG GB bB HKI
            rename Below w.heap.size w w5 => hW4
            obtain ⟨x0, x1, x2, x3⟩ := bP.c; have xl := bP.lt
            go_wp2_with fail
            clear x0 x1 x2 x3 xl
            refine (lpWithin_any _ p.n p.ao p.bo p.co xo p.ka p.ca p.kb p.cb p.kc p.cc kx cx 6 6 6 p.M p.B (LX.map RQ.r) GP.out.k GP.out.a GP.out.b fkc GX.out (by omega) (by omega) (by omega) (by omega)).mono ?_
            rintro e w5 ⟨rfl, hb5⟩
            have hW5 := below_call hW4 hb5 hW4.size
            replace bP := bP.keep hb5
            replace bA := bA.keep hb5
            replace GP := hid (GP.out.below hb5)
            replace GA := hid (GA.out.below hb5)
            replace GX := hid (GX.out.below hb5)
            clear hb5 hW4
            cases hwi : withinB p.n p.ka p.kb p.kc p.M p.B (LX.map RQ.r)
            · clear hwi
              go_wp2_with fail
              refine (HAW _).mono ?_
              rintro e wz ⟨rfl, hbz⟩
              have HR := hid (below_call hW5 hbz hW5.size)
              clear hbz
              go_wp2
              go_ret
              exact ⟨rfl, HR.out⟩
            · have HPT := hid (point_on GP.out GA.out HF.out (LX.map RQ.r) hwi)
              have HKC : Hid (p.kc = kx ∧ p.kc ≤ 60) := hid (by
                have h1 := rightB_iff.1 (and2 (and2 hwi).1).1
                have h2 := within_len hwi
                have h3 := GX.out.len.1
                omega)
              clear hwi
              obtain ⟨x0, x1, x2, x3⟩ := bP.c; have xl := bP.lt
              go_wp2_with fail
              clear x0 x1 x2 x3 xl
              refine (rdot_both _ _ _ p.kc kx _ _ 6 6 p.C (LX.map RQ.r) GP.out.c GX.out (by omega) (by omega) (fun h => by have := HKC.out.2; omega)).mono ?_
              rintro e w6 (⟨hk, n1, a1, k1, c1, n2, a2, k2, c2, rfl, hI, hb⟩ | ⟨hk, rfl, hb⟩)
              · have hB1 := hb.alloc hb.size (.cells #[.bool n1, .slice a1 k1 c1, .bool n2, .slice a2 k2 c2] 26)
                have hW6 := below_call hW5 hB1 hW5.size
                have HI := hid (hI.below ((Below.refl _ _).alloc (Nat.le_refl _) (.cells #[.bool n1, .slice a1 k1 c1, .bool n2, .slice a2 k2 c2] 26)))
                have bV : Box4 (w6.alloc (.cells #[.bool n1, .slice a1 k1 c1, .bool n2, .slice a2 k2 c2] 26)) w6.heap.size (.bool n1) (.slice a1 k1 c1) (.bool n2) (.slice a2 k2 c2) := Box4.new _ _ _ _ _ _ rfl
                replace bA := bA.keep hB1
                replace GA := hid (GA.out.below hB1)
                have hk2 := HPT.out.1
                clear hB1 hb hI hW5 hk
                obtain ⟨v0, v1, v2, v3⟩ := bV.c
                have vl := bV.lt
                obtain ⟨y0, y1, y2, y3, y4, y5, y6, y7⟩ := bA.c; have yl := bA.lt
                by_cases hk1 : a.kd = 1
                · have hk1b : (a.kd == 1) = true := by simp [hk1]
                  have HLE := hid (HPT.out.2 hk1)
                  clear hk1
                  go_wp2_with fail
                  clear y0 y1 y2 y3 y4 y5 y6 y7 yl
                  clear v0 v1 v2 v3 vl
                  generalize w6.alloc (.cells #[.bool n1, .slice a1 k1 c1, .bool n2, .slice a2 k2 c2] 26) = W6 at *
                  obtain ⟨u, hu⟩ : ∃ u, cmpR (dotR p.C (LX.map RQ.r)) a.V = u := ⟨_, rfl⟩
                  have HU := hid hu
                  have hu0 : ¬ 0 < u := by rw [← hu]; have := HLE.out; omega
                  clear hu
                  refine (cmpRat_any _ _ _ _ 6 (dotR p.C (LX.map RQ.r)) a.V HI.out.arg GA.out.v (by have := HKC.out.2; omega) (by omega)).mono ?_
                  rintro e w7 ⟨rfl, hb7⟩
                  rw [HU.out]
                  have hW7 := below_call hW6 hb7 hW6.size
                  clear hb7 hW6
                  go_wp2_with fail
                  refine (HAW _).mono ?_
                  rintro e wz ⟨rfl, hbz⟩
                  have HR := hid (below_call hW7 hbz hW7.size)
                  clear hbz
                  go_wp2
                  go_ret
                  exact ⟨rfl, HR.out⟩
                · have hk1b : (a.kd == 1) = false := by simp [hk1]
                  clear hk1
                  go_wp2_with fail
                  refine (HAW _).mono ?_
                  rintro e wz ⟨rfl, hbz⟩
                  have HR := hid (below_call hW6 hbz hW6.size)
                  clear hbz
                  go_wp2
                  go_ret
                  exact ⟨rfl, HR.out⟩
              · exact absurd HKC.out.1 hk
      · clear hsm hb3
        go_wp2_with fail
        refine (HAW _).mono ?_
        rintro e w4 ⟨rfl, hb4⟩
        have HR := hid (below_call hW3 hb4 hW3.size)
        clear hb4 hW3
        go_wp2
        go_ret
        exact ⟨rfl, HR.out⟩
    · clear hsm hb2
      go_wp2_with fail
      refine (HAW _).mono ?_
      rintro e w4 ⟨rfl, hb4⟩
      have HR := hid (below_call hW2 hb4 hW2.size)
      clear hb4 hW2
      go_wp2
      go_ret
      exact ⟨rfl, HR.out⟩
  · clear hsm hb1 HW
    go_wp2_with fail
    refine (HAW _).mono ?_
    rintro e w4 ⟨rfl, hb4⟩
    have HR := hid (below_call hW1 hb4 hW1.size)
    clear hb4 hW1
    go_wp2
    go_ret
    exact ⟨rfl, HR.out⟩

end Go.Proofs.YtmnlggmdomcajaaGreat
