/-
  The laws LpRights and LpHolds.
-/
import Derived.Test.YtmnlggmdomcajaaGreatL14
import Derived.Test.YtmnlggmdomcajaaGreatL21
import Derived.Test.YtmnlggmdomcajaaGreatL17
namespace Go.Proofs.YtmnlggmdomcajaaGreat
open Go.RowKit Lm
set_option linter.unusedSimpArgs false
set_option linter.unusedVariables false
set_option maxRecDepth 100000

/-- A point alone, as an answer. -/
def pointA (xo : Option Addr) (kx cx : Nat) (X : List Rat) : Ansd := ⟨0, false, none, 0, 0, false, none, 0, 0, xo, kx, cx, none, 0, 0, none, 0, 0, 0, X, [], []⟩
theorem ratMean_nil : ratMean false [] false [] = 0 := by
  unfold ratMean
  rw [if_neg]
  intro h
  unfold formB at h
  have := h.2.2.1
  simp [sgn, val] at this
theorem slAt_none (w : World) : SlAt w none 0 [] := ⟨ok_nil, by simp, by unfold maxLen; omega, .inl ⟨rfl, fun _ => rfl⟩⟩
theorem rawRow_nil (w : World) : RawRow w none 0 [] := ⟨Nat.le_refl _, by unfold maxLen; omega, .inl rfl⟩
theorem pointA_raw {w : World} {xo : Option Addr} {kx cx : Nat} {LX : List RQ} (hk : kx = LX.length) (h : RawRow w xo cx LX) : (pointA xo kx cx (LX.map RQ.r)).Raw ⟨false, [], false, []⟩ LX [] [] w :=
  ⟨rfl, rfl, rfl, rfl, slAt_none w, slAt_none w, hk, h, rfl, rawRow_nil w, rfl, rawRow_nil w, ratMean_nil.symm, rfl, rfl, rfl⟩

set_option maxHeartbeats 3200000 in
theorem lpRights_any (HAW : Awake5) (w : World) (p : LPd) (xo : Option Addr) (kx cx : Nat) (LX : List RQ) {LM : List (List RQ)} {LB LC : List RQ} (hp : p.Raw LM LB LC w) (hkx : kx = LX.length) (hX : RawRow w xo cx LX) :
    Calls Tryz.prog 4 #[.agg #[.int .i64 p.n, .slice p.ao p.ka p.ca, .slice p.bo p.kb p.cb, .slice p.co p.kc p.cc], .slice xo kx cx] w fun e w' => e = .returned (.bool true) ∧ Below w.heap.size w w' := by
  have hW0 : Below w.heap.size w (w.alloc (.cells #[.int .i64 p.n, .slice p.ao p.ka p.ca, .slice p.bo p.kb p.cb, .slice p.co p.kc p.cc] 43)) := (by repeat (first | exact Below.refl _ _ | refine Below.alloc ?_ ?_ _ | refine Below.setCell ?_ ?_ _ | refine Below.drew ?_ | refine below_drewN ?_ _ | (· simp) | omega | (· simp; omega) | exact Below.size (by assumption) | assumption | refine below_call ?_ (by assumption) ?_))
  have bP : BoxL (w.alloc (.cells #[.int .i64 p.n, .slice p.ao p.ka p.ca, .slice p.bo p.kb p.cb, .slice p.co p.kc p.cc] 43)) w.heap.size (.int .i64 p.n) (.slice p.ao p.ka p.ca) (.slice p.bo p.kb p.cb) (.slice p.co p.kc p.cc) := BoxL.new w _ _ _ _ _ rfl
  have HP := hid (hp.below hW0)
  have HA := hid (pointA_raw hkx (hX.below hW0))
  have HW := hid hW0
  clear hp hX hkx hW0
  go_enter Tryz.func4, Tryz.ntmps4
  obtain ⟨x0, x1, x2, x3⟩ := bP.c
  have xl := bP.lt
  go_wp2_with fail
  clear x0 x1 x2 x3 xl
  generalize w.alloc (.cells #[.int .i64 p.n, .slice p.ao p.ka p.ca, .slice p.bo p.kb p.cb, .slice p.co p.kc p.cc] 43) = W0 at *
  refine (great5_any _ p (pointA xo kx cx (LX.map RQ.r)) _ _ _ _ _ _ _ HP.out HA.out).mono ?_
  rintro e w1 ⟨b, rfl, hb1, hsm⟩
  have hW1 := below_call HW.out hb1 HW.out.size
  replace bP := bP.keep hb1
  cases b
  · obtain ⟨hp1, ha1⟩ := hsm rfl
    have HP1 := hid hp1
    have HX1 : Hid (QSl w1 (.slice xo kx cx) 6 (LX.map RQ.r)) := hid ha1.x
    have fkb := hp1.b.len.2
    have fkc := hp1.c.len.2
    clear hp1 ha1 hsm hb1 HW HP HA
    obtain ⟨x0, x1, x2, x3⟩ := bP.c
    have xl := bP.lt
    have HBW : Below w1.heap.size w1 w1.drew := (Below.refl _ _).drew
    obtain ⟨r, hr⟩ : ∃ r, rightB p.n p.ka p.kb p.kc p.M = r := ⟨_, rfl⟩
    obtain ⟨v, hv⟩ : ∃ v, withinB p.n p.ka p.kb p.kc p.M p.B (LX.map RQ.r) = v := ⟨_, rfl⟩
    have HRR := hid hr
    have HVV := hid hv
    clear hr hv
    go_wp2_with fail
    go_region_held3 (fun W' => W'.cell? ⟨w.heap.size, 0, none⟩ = some (.int .i64 p.n) ∧ W'.cell? ⟨w.heap.size, 1, none⟩ = some (.slice p.ao p.ka p.ca) ∧ W'.cell? ⟨w.heap.size, 2, none⟩ = some (.slice p.bo p.kb p.cb) ∧ W'.cell? ⟨w.heap.size, 3, none⟩ = some (.slice p.co p.kc p.cc)) (exact (bP.keep HBW).c) (first
      | (go_at_call 27; go_must (refine (lpRight_any _ p.n p.ao p.bo p.co p.ka p.ca p.kb p.cb p.kc p.cc 6 p.M HP1.out.k (HP1.out.a.below HBW) fkb fkc).mono ?_); rintro e wn ⟨rfl, hb⟩; rw [HRR.out]; have HBn := below_call HBW hb HBW.size; clear HBW hb; have HBW := HBn; clear HBn)
      | (go_at_call 28; go_must (refine (rRight_any _ p.n p.ao p.bo p.co p.ka p.ca p.kb p.cb p.kc p.cc 6 p.M HP1.out.k (HP1.out.a.below HBW) fkb fkc).mono ?_); rintro e wn ⟨rfl, hb⟩; rw [HRR.out]; have HBn := below_call HBW hb HBW.size; clear HBW hb; have HBW := HBn; clear HBn)
      | (go_at_call 29; go_must (refine (lpWithin_any _ p.n p.ao p.bo p.co xo p.ka p.ca p.kb p.cb p.kc p.cc kx cx 6 6 6 p.M p.B (LX.map RQ.r) HP1.out.k (HP1.out.a.below HBW) (HP1.out.b.below HBW) fkc (HX1.out.below HBW) (by omega) (by omega) (by omega) (by omega)).mono ?_); rintro e wn ⟨rfl, hb⟩; rw [HVV.out]; have HBn := below_call HBW hb HBW.size; clear HBW hb; have HBW := HBn; clear HBn)
      | (go_at_call 30; go_must (refine (rWithin_any _ p.n p.ao p.bo p.co xo p.ka p.ca p.kb p.cb p.kc p.cc kx cx 6 6 6 p.M p.B (LX.map RQ.r) HP1.out.k (HP1.out.a.below HBW) (HP1.out.b.below HBW) fkc (HX1.out.below HBW) (by omega) (by omega) (by omega) (by omega)).mono ?_); rintro e wn ⟨rfl, hb⟩; rw [HVV.out]; have HBn := below_call HBW hb HBW.size; clear HBW hb; have HBW := HBn; clear HBn)
      | (go_at_call 26; go_must (refine (HAW _).mono ?_); rintro e wn ⟨rfl, hb⟩; have HBn := below_call HBW hb HBW.size; clear HBW hb; have HBW := HBn; clear HBn))
    have HR := hid (below_call hW1 HBW hW1.size)
    clear HBW hW1
    go_wp2
    go_ret
    exact ⟨rfl, HR.out⟩
  · clear hsm hb1 HW
    go_wp2_with fail
    refine (HAW _).mono ?_
    rintro e w2 ⟨rfl, hb2⟩
    have HR := hid (below_call hW1 hb2 hW1.size)
    clear hb2 hW1
    go_wp2
    go_ret
    exact ⟨rfl, HR.out⟩

set_option maxHeartbeats 3200000 in
theorem lpHolds_any (HAW : Awake5) (w : World) (p : LPd) (a : Ansd) {LM : List (List RQ)} {LB LC : List RQ} {q : RQ} {LX LY LR : List RQ} (hp : p.Raw LM LB LC w) (ha : a.Raw q LX LY LR w) :
    Calls Tryz.prog 5 #[.agg #[.int .i64 p.n, .slice p.ao p.ka p.ca, .slice p.bo p.kb p.cb, .slice p.co p.kc p.cc], .agg #[.int .i64 a.kd, .bool a.n1, .slice a.a1 a.k1 a.c1, .bool a.n2, .slice a.a2 a.k2 a.c2, .slice a.xo a.kx a.cx, .slice a.yo a.ky a.cy, .slice a.ro a.kr a.cr]] w fun e w' => e = .returned (.bool true) ∧ Below w.heap.size w w' := by
  have hW0 : Below w.heap.size w ((w.alloc (.cells #[.int .i64 p.n, .slice p.ao p.ka p.ca, .slice p.bo p.kb p.cb, .slice p.co p.kc p.cc] 43)).alloc (.cells #[.int .i64 a.kd, .bool a.n1, .slice a.a1 a.k1 a.c1, .bool a.n2, .slice a.a2 a.k2 a.c2, .slice a.xo a.kx a.cx, .slice a.yo a.ky a.cy, .slice a.ro a.kr a.cr] 46)) := (by repeat (first | exact Below.refl _ _ | refine Below.alloc ?_ ?_ _ | refine Below.setCell ?_ ?_ _ | refine Below.drew ?_ | refine below_drewN ?_ _ | (· simp) | omega | (· simp; omega) | exact Below.size (by assumption) | assumption | refine below_call ?_ (by assumption) ?_))
  have bP : BoxL ((w.alloc (.cells #[.int .i64 p.n, .slice p.ao p.ka p.ca, .slice p.bo p.kb p.cb, .slice p.co p.kc p.cc] 43)).alloc (.cells #[.int .i64 a.kd, .bool a.n1, .slice a.a1 a.k1 a.c1, .bool a.n2, .slice a.a2 a.k2 a.c2, .slice a.xo a.kx a.cx, .slice a.yo a.ky a.cy, .slice a.ro a.kr a.cr] 46)) w.heap.size (.int .i64 p.n) (.slice p.ao p.ka p.ca) (.slice p.bo p.kb p.cb) (.slice p.co p.kc p.cc) := (BoxL.new w _ _ _ _ _ rfl).keep ((Below.refl _ _).alloc (Nat.le_refl _) _)
  have bA : BoxA ((w.alloc (.cells #[.int .i64 p.n, .slice p.ao p.ka p.ca, .slice p.bo p.kb p.cb, .slice p.co p.kc p.cc] 43)).alloc (.cells #[.int .i64 a.kd, .bool a.n1, .slice a.a1 a.k1 a.c1, .bool a.n2, .slice a.a2 a.k2 a.c2, .slice a.xo a.kx a.cx, .slice a.yo a.ky a.cy, .slice a.ro a.kr a.cr] 46)) (w.heap.size + 1) a := BoxA.new _ a _ (by simp)
  have HP := hid (hp.below hW0)
  have HA := hid (ha.below hW0)
  have HW := hid hW0
  clear hp ha hW0
  go_enter Tryz.func5, Tryz.ntmps5
  obtain ⟨x0, x1, x2, x3⟩ := bP.c
  have xl := bP.lt
  obtain ⟨y0, y1, y2, y3, y4, y5, y6, y7⟩ := bA.c
  have yl := bA.lt
  go_wp2_with fail
  clear x0 x1 x2 x3 xl y0 y1 y2 y3 y4 y5 y6 y7 yl
  generalize (w.alloc (.cells #[.int .i64 p.n, .slice p.ao p.ka p.ca, .slice p.bo p.kb p.cb, .slice p.co p.kc p.cc] 43)).alloc (.cells #[.int .i64 a.kd, .bool a.n1, .slice a.a1 a.k1 a.c1, .bool a.n2, .slice a.a2 a.k2 a.c2, .slice a.xo a.kx a.cx, .slice a.yo a.ky a.cy, .slice a.ro a.kr a.cr] 46) = W0 at *
  refine (great5_any _ p a _ _ _ _ _ _ _ HP.out HA.out).mono ?_
  rintro e w1 ⟨b, rfl, hb1, hsm⟩
  have hW1 := below_call HW.out hb1 HW.out.size
  replace bP := bP.keep hb1
  replace bA := bA.keep hb1
  cases b
  · obtain ⟨hp1, ha1⟩ := hsm rfl
    have HP1 := hid hp1
    have HA1 := hid ha1
    clear hp1 ha1 hsm hb1 HW HP HA
    obtain ⟨x0, x1, x2, x3⟩ := bP.c
    have xl := bP.lt
    obtain ⟨y0, y1, y2, y3, y4, y5, y6, y7⟩ := bA.c
    have yl := bA.lt
    have HBW : Below w1.heap.size w1 w1.drew := (Below.refl _ _).drew
    obtain ⟨r, hr⟩ : ∃ r, holdsB p a p.n.toNat = r := ⟨_, rfl⟩
    have HRR := hid hr
    clear hr
    go_wp2_with fail
    go_region_held3 (fun W' => (W'.cell? ⟨w.heap.size, 0, none⟩ = some (.int .i64 p.n) ∧ W'.cell? ⟨w.heap.size, 1, none⟩ = some (.slice p.ao p.ka p.ca) ∧ W'.cell? ⟨w.heap.size, 2, none⟩ = some (.slice p.bo p.kb p.cb) ∧ W'.cell? ⟨w.heap.size, 3, none⟩ = some (.slice p.co p.kc p.cc)) ∧ W'.cell? ⟨w.heap.size + 1, 0, none⟩ = some (.int .i64 a.kd) ∧ W'.cell? ⟨w.heap.size + 1, 1, none⟩ = some (.bool a.n1) ∧ W'.cell? ⟨w.heap.size + 1, 2, none⟩ = some (.slice a.a1 a.k1 a.c1) ∧ W'.cell? ⟨w.heap.size + 1, 3, none⟩ = some (.bool a.n2) ∧ W'.cell? ⟨w.heap.size + 1, 4, none⟩ = some (.slice a.a2 a.k2 a.c2) ∧ W'.cell? ⟨w.heap.size + 1, 5, none⟩ = some (.slice a.xo a.kx a.cx) ∧ W'.cell? ⟨w.heap.size + 1, 6, none⟩ = some (.slice a.yo a.ky a.cy) ∧ W'.cell? ⟨w.heap.size + 1, 7, none⟩ = some (.slice a.ro a.kr a.cr)) (exact ⟨(bP.keep HBW).c, (bA.keep HBW).c⟩) (first
      | (go_at_call 31; go_must (refine (holdsC_any _ p a (HP1.out.below HBW) (HA1.out.below HBW)).mono ?_); rintro e wn ⟨rfl, hb⟩; rw [HRR.out]; have HBn := below_call HBW hb HBW.size; clear HBW hb; have HBW := HBn; clear HBn)
      | (go_at_call 32; go_must (refine (rHolds_any _ p a (HP1.out.below HBW) (HA1.out.below HBW)).mono ?_); rintro e wn ⟨rfl, hb⟩; rw [HRR.out]; have HBn := below_call HBW hb HBW.size; clear HBW hb; have HBW := HBn; clear HBn)
      | (go_at_call 26; go_must (refine (HAW _).mono ?_); rintro e wn ⟨rfl, hb⟩; have HBn := below_call HBW hb HBW.size; clear HBW hb; have HBW := HBn; clear HBn))
    have HR := hid (below_call hW1 HBW hW1.size)
    clear HBW hW1
    go_wp2
    go_ret
    exact ⟨rfl, HR.out⟩
  · clear hsm hb1 HW
    go_wp2_with fail
    refine (HAW _).mono ?_
    rintro e w2 ⟨rfl, hb2⟩
    have HR := hid (below_call hW1 hb2 hW1.size)
    clear hb2 hW1
    go_wp2
    go_ret
    exact ⟨rfl, HR.out⟩

end Go.Proofs.YtmnlggmdomcajaaGreat
