/-
  The looks that ask for a Dot.
-/
import Derived.Test.YtmnlggmdomcajaaGreatL7
namespace Go.Proofs.YtmnlggmdomcajaaGreat
open Go.RowKit Lm
set_option linter.unusedSimpArgs false
set_option linter.unusedVariables false
set_option maxRecDepth 100000

def DotSay (w : World) (k1 k2 N : Nat) (r : Rat) (e : Ending) (w' : World) : Prop :=
  (k1 = k2 ∧ ∃ n1 a1 j1 c1 n2 a2 j2 c2, e = .returned (.tuple #[.agg #[.bool n1, .slice a1 j1 c1, .bool n2, .slice a2 j2 c2], .int .i64 0]) ∧ RIs w' 0 (.agg #[.bool n1, .slice a1 j1 c1, .bool n2, .slice a2 j2 c2]) N r ∧ Below w.heap.size w w') ∨ (k1 ≠ k2 ∧ e = .returned (.tuple #[.agg #[.bool false, .slice none 0 0, .bool false, .slice none 0 0], .int .i64 1]) ∧ Below w.heap.size w w')
theorem vdot_both (w : World) (ao bo : Option Addr) (k1 k2 ca cb n m : Nat) (A B : List Rat) (hA : QSl w (.slice ao k1 ca) n A) (hB : QSl w (.slice bo k2 cb) m B) (hn : 1 ≤ n) (hm : 1 ≤ m) (hk : k1 = k2 → (n + m) * k1 ≤ 14000) :
    Calls Tryz.prog 112 #[.slice ao k1 ca, .slice bo k2 cb] w (DotSay w k1 k2 ((n + m) * k1 + 1) (dotR A B)) := by
  by_cases h : k1 = k2
  · subst h
    obtain ⟨h1, h2⟩ := qsl_at hA
    obtain ⟨h3, h4⟩ := qsl_at hB
    refine (vdot_any w ao bo k1 ca cb n m A B h1 h3 h2 h4 hn hm (hk rfl)).mono ?_
    rintro e w' ⟨n1, a1, j1, c1, n2, a2, j2, c2, rfl, hI, hb⟩
    exact .inl ⟨rfl, n1, a1, j1, c1, n2, a2, j2, c2, rfl, hI, hb⟩
  · refine (vdot_no w ao bo k1 k2 ca cb h hA.len.2 hB.len.2).mono ?_
    rintro e w' ⟨rfl, hb⟩
    exact .inr ⟨h, rfl, hb⟩

set_option maxHeartbeats 1600000 in
theorem pointReachesV_any (w : World) (p : LPd) (a : Ansd) (hp : p.At w) (ha : a.At w) (hR : rightB p.n p.ka p.kb p.kc p.M = true) :
    Calls Tryz.prog 65 #[.agg #[.int .i64 p.n, .slice p.ao p.ka p.ca, .slice p.bo p.kb p.cb, .slice p.co p.kc p.cc], .agg #[.int .i64 a.kd, .bool a.n1, .slice a.a1 a.k1 a.c1, .bool a.n2, .slice a.a2 a.k2 a.c2, .slice a.xo a.kx a.cx, .slice a.yo a.ky a.cy, .slice a.ro a.kr a.cr]] w (Looked (decide (p.kc = a.kx) && (cmpR (dotR p.C a.X) a.V == 0)) w) := by
  have hW0 : Below w.heap.size w ((w.alloc (.cells #[.int .i64 p.n, .slice p.ao p.ka p.ca, .slice p.bo p.kb p.cb, .slice p.co p.kc p.cc] 43)).alloc (.cells #[.int .i64 a.kd, .bool a.n1, .slice a.a1 a.k1 a.c1, .bool a.n2, .slice a.a2 a.k2 a.c2, .slice a.xo a.kx a.cx, .slice a.yo a.ky a.cy, .slice a.ro a.kr a.cr] 46)) := (by repeat (first | exact Below.refl _ _ | refine Below.alloc ?_ ?_ _ | refine Below.setCell ?_ ?_ _ | refine Below.drew ?_ | refine below_drewN ?_ _ | (· simp) | omega | (· simp; omega) | exact Below.size (by assumption) | assumption | refine below_call ?_ (by assumption) ?_))
  have bP : BoxL ((w.alloc (.cells #[.int .i64 p.n, .slice p.ao p.ka p.ca, .slice p.bo p.kb p.cb, .slice p.co p.kc p.cc] 43)).alloc (.cells #[.int .i64 a.kd, .bool a.n1, .slice a.a1 a.k1 a.c1, .bool a.n2, .slice a.a2 a.k2 a.c2, .slice a.xo a.kx a.cx, .slice a.yo a.ky a.cy, .slice a.ro a.kr a.cr] 46)) w.heap.size (.int .i64 p.n) (.slice p.ao p.ka p.ca) (.slice p.bo p.kb p.cb) (.slice p.co p.kc p.cc) := (BoxL.new w _ _ _ _ _ rfl).keep ((Below.refl _ _).alloc (Nat.le_refl _) _)
  have bA : BoxA ((w.alloc (.cells #[.int .i64 p.n, .slice p.ao p.ka p.ca, .slice p.bo p.kb p.cb, .slice p.co p.kc p.cc] 43)).alloc (.cells #[.int .i64 a.kd, .bool a.n1, .slice a.a1 a.k1 a.c1, .bool a.n2, .slice a.a2 a.k2 a.c2, .slice a.xo a.kx a.cx, .slice a.yo a.ky a.cy, .slice a.ro a.kr a.cr] 46)) (w.heap.size + 1) a := BoxA.new _ a _ (by simp)
  have HP := hid (hp.below hW0)
  have HA := hid (ha.below hW0)
  have HW := hid hW0
  have fkx := ha.x.len.2
  have fky := ha.y.len.2
  have fkr := ha.r.len.2
  have fkb := hp.b.len.2
  have fkc := hp.c.len.2
  clear hp ha hW0
  obtain ⟨r1, r2, r3, r4, r5, r6⟩ := rightB_iff.1 hR
  have hkc60 : p.kc ≤ 60 := by omega
  have hkb60 : p.kb ≤ 60 := by omega
  clear hR r6
  go_enter Tryz.func65, Tryz.ntmps65
  obtain ⟨z, hz⟩ : ∃ z, cmpR (dotR p.C a.X) a.V = z := ⟨_, rfl⟩
  have HZ := hid hz
  clear hz
  clear r1 r2 r3 r5
  go_wp2_with fail
  generalize (w.alloc (.cells #[.int .i64 p.n, .slice p.ao p.ka p.ca, .slice p.bo p.kb p.cb, .slice p.co p.kc p.cc] 43)).alloc (.cells #[.int .i64 a.kd, .bool a.n1, .slice a.a1 a.k1 a.c1, .bool a.n2, .slice a.a2 a.k2 a.c2, .slice a.xo a.kx a.cx, .slice a.yo a.ky a.cy, .slice a.ro a.kr a.cr] 46) = W0 at *
  refine (vdot_both _ _ _ _ _ _ _ 6 6 p.C a.X HP.out.c HA.out.x (by omega) (by omega) (fun h => by omega)).mono ?_
  rintro e w1 (⟨hk, n1, a1, k1, c1, n2, a2, k2, c2, rfl, hI, hb⟩ | ⟨hk, rfl, hb⟩)
  · have hB1 := hb.alloc hb.size (.cells #[.bool n1, .slice a1 k1 c1, .bool n2, .slice a2 k2 c2] 26)
    have hW1 := below_call HW.out hB1 HW.out.size
    have HI := hid (hI.below ((Below.refl _ _).alloc (Nat.le_refl _) (.cells #[.bool n1, .slice a1 k1 c1, .bool n2, .slice a2 k2 c2] 26)))
    have bR : Box4 (w1.alloc (.cells #[.bool n1, .slice a1 k1 c1, .bool n2, .slice a2 k2 c2] 26)) w1.heap.size (.bool n1) (.slice a1 k1 c1) (.bool n2) (.slice a2 k2 c2) := Box4.new _ _ _ _ _ _ rfl
    obtain ⟨x0, x1, x2, x3⟩ := bR.c
    have xl := bR.lt
    obtain ⟨y0, y1, y2, y3, y4, y5, y6, y7⟩ := (bA.keep hB1).c
    have yl := (bA.keep hB1).lt
    have HKE := hid hk
    clear hb hI bR hk
    go_wp2_with fail
    clear x0 x1 x2 x3 xl y0 y1 y2 y3 y4 y5 y6 y7 yl
    refine (ratCmp_any _ _ _ _ 6 (dotR p.C a.X) a.V HI.out.arg (HA.out.below hB1).v (by have := HKE.out; omega) (by omega)).mono ?_
    rintro e w2 ⟨rfl, hb2⟩
    rw [HZ.out]
    have HR := hid (below_call hW1 hb2 hW1.size)
    clear hb2 hW1 hB1
    go_wp2
    go_ret
    exact ⟨ret_bool (by rw [decide_eq_true HKE.out, HZ.out]; simp), HR.out⟩
  · have hB1 := hb.alloc hb.size (.cells #[.bool false, .slice none 0 0, .bool false, .slice none 0 0] 26)
    have HR := hid (below_call HW.out hB1 HW.out.size)
    have HKE := hid hk
    clear hb hB1 hk
    go_wp2
    go_ret
    exact ⟨ret_bool (by rw [decide_eq_false HKE.out]; simp), HR.out⟩

set_option maxHeartbeats 1600000 in
theorem rayRises_any (w : World) (p : LPd) (a : Ansd) (hp : p.At w) (ha : a.At w) (hR : rightB p.n p.ka p.kb p.kc p.M = true) :
    Calls Tryz.prog 73 #[.agg #[.int .i64 p.n, .slice p.ao p.ka p.ca, .slice p.bo p.kb p.cb, .slice p.co p.kc p.cc], .agg #[.int .i64 a.kd, .bool a.n1, .slice a.a1 a.k1 a.c1, .bool a.n2, .slice a.a2 a.k2 a.c2, .slice a.xo a.kx a.cx, .slice a.yo a.ky a.cy, .slice a.ro a.kr a.cr]] w (Looked (decide (p.kc = a.kr) && (decide (0 < cmpR (dotR p.C a.R) 0))) w) := by
  have hW0 : Below w.heap.size w ((w.alloc (.cells #[.int .i64 p.n, .slice p.ao p.ka p.ca, .slice p.bo p.kb p.cb, .slice p.co p.kc p.cc] 43)).alloc (.cells #[.int .i64 a.kd, .bool a.n1, .slice a.a1 a.k1 a.c1, .bool a.n2, .slice a.a2 a.k2 a.c2, .slice a.xo a.kx a.cx, .slice a.yo a.ky a.cy, .slice a.ro a.kr a.cr] 46)) := (by repeat (first | exact Below.refl _ _ | refine Below.alloc ?_ ?_ _ | refine Below.setCell ?_ ?_ _ | refine Below.drew ?_ | refine below_drewN ?_ _ | (· simp) | omega | (· simp; omega) | exact Below.size (by assumption) | assumption | refine below_call ?_ (by assumption) ?_))
  have bP : BoxL ((w.alloc (.cells #[.int .i64 p.n, .slice p.ao p.ka p.ca, .slice p.bo p.kb p.cb, .slice p.co p.kc p.cc] 43)).alloc (.cells #[.int .i64 a.kd, .bool a.n1, .slice a.a1 a.k1 a.c1, .bool a.n2, .slice a.a2 a.k2 a.c2, .slice a.xo a.kx a.cx, .slice a.yo a.ky a.cy, .slice a.ro a.kr a.cr] 46)) w.heap.size (.int .i64 p.n) (.slice p.ao p.ka p.ca) (.slice p.bo p.kb p.cb) (.slice p.co p.kc p.cc) := (BoxL.new w _ _ _ _ _ rfl).keep ((Below.refl _ _).alloc (Nat.le_refl _) _)
  have bA : BoxA ((w.alloc (.cells #[.int .i64 p.n, .slice p.ao p.ka p.ca, .slice p.bo p.kb p.cb, .slice p.co p.kc p.cc] 43)).alloc (.cells #[.int .i64 a.kd, .bool a.n1, .slice a.a1 a.k1 a.c1, .bool a.n2, .slice a.a2 a.k2 a.c2, .slice a.xo a.kx a.cx, .slice a.yo a.ky a.cy, .slice a.ro a.kr a.cr] 46)) (w.heap.size + 1) a := BoxA.new _ a _ (by simp)
  have HP := hid (hp.below hW0)
  have HA := hid (ha.below hW0)
  have HW := hid hW0
  have fkx := ha.x.len.2
  have fky := ha.y.len.2
  have fkr := ha.r.len.2
  have fkb := hp.b.len.2
  have fkc := hp.c.len.2
  clear hp ha hW0
  obtain ⟨r1, r2, r3, r4, r5, r6⟩ := rightB_iff.1 hR
  have hkc60 : p.kc ≤ 60 := by omega
  have hkb60 : p.kb ≤ 60 := by omega
  clear hR r6
  go_enter Tryz.func73, Tryz.ntmps73
  obtain ⟨z, hz⟩ : ∃ z, cmpR (dotR p.C a.R) 0 = z := ⟨_, rfl⟩
  have HZ := hid hz
  clear hz
  clear r1 r2 r3 r5
  go_wp2_with fail
  generalize (w.alloc (.cells #[.int .i64 p.n, .slice p.ao p.ka p.ca, .slice p.bo p.kb p.cb, .slice p.co p.kc p.cc] 43)).alloc (.cells #[.int .i64 a.kd, .bool a.n1, .slice a.a1 a.k1 a.c1, .bool a.n2, .slice a.a2 a.k2 a.c2, .slice a.xo a.kx a.cx, .slice a.yo a.ky a.cy, .slice a.ro a.kr a.cr] 46) = W0 at *
  refine (vdot_both _ _ _ _ _ _ _ 6 6 p.C a.R HP.out.c HA.out.r (by omega) (by omega) (fun h => by omega)).mono ?_
  rintro e w1 (⟨hk, n1, a1, k1, c1, n2, a2, k2, c2, rfl, hI, hb⟩ | ⟨hk, rfl, hb⟩)
  · have hB1 := hb.alloc hb.size (.cells #[.bool n1, .slice a1 k1 c1, .bool n2, .slice a2 k2 c2] 26)
    have hW1 := below_call HW.out hB1 HW.out.size
    have HI := hid (hI.below ((Below.refl _ _).alloc (Nat.le_refl _) (.cells #[.bool n1, .slice a1 k1 c1, .bool n2, .slice a2 k2 c2] 26)))
    have bR : Box4 (w1.alloc (.cells #[.bool n1, .slice a1 k1 c1, .bool n2, .slice a2 k2 c2] 26)) w1.heap.size (.bool n1) (.slice a1 k1 c1) (.bool n2) (.slice a2 k2 c2) := Box4.new _ _ _ _ _ _ rfl
    obtain ⟨x0, x1, x2, x3⟩ := bR.c
    have xl := bR.lt
    obtain ⟨y0, y1, y2, y3, y4, y5, y6, y7⟩ := (bA.keep hB1).c
    have yl := (bA.keep hB1).lt
    have HKE := hid hk
    clear hb hI bR hk
    go_wp2_with fail
    clear x0 x1 x2 x3 xl y0 y1 y2 y3 y4 y5 y6 y7 yl
    refine (lpSign_any _ _ _ (dotR p.C a.R) HI.out.arg (by have := HKE.out; omega)).mono ?_
    rintro e w2 ⟨rfl, hb2⟩
    rw [HZ.out]
    have HR := hid (below_call hW1 hb2 hW1.size)
    clear hb2 hW1 hB1
    go_wp2
    go_ret
    exact ⟨ret_bool (by rw [decide_eq_true HKE.out, HZ.out]; simp), HR.out⟩
  · have hB1 := hb.alloc hb.size (.cells #[.bool false, .slice none 0 0, .bool false, .slice none 0 0] 26)
    have HR := hid (below_call HW.out hB1 HW.out.size)
    have HKE := hid hk
    clear hb hB1 hk
    go_wp2
    go_ret
    exact ⟨ret_bool (by rw [decide_eq_false HKE.out]; simp), HR.out⟩

set_option maxHeartbeats 1600000 in
theorem weightsBoundByV_any (w : World) (p : LPd) (a : Ansd) (hp : p.At w) (ha : a.At w) (hR : rightB p.n p.ka p.kb p.kc p.M = true) :
    Calls Tryz.prog 66 #[.agg #[.int .i64 p.n, .slice p.ao p.ka p.ca, .slice p.bo p.kb p.cb, .slice p.co p.kc p.cc], .agg #[.int .i64 a.kd, .bool a.n1, .slice a.a1 a.k1 a.c1, .bool a.n2, .slice a.a2 a.k2 a.c2, .slice a.xo a.kx a.cx, .slice a.yo a.ky a.cy, .slice a.ro a.kr a.cr]] w (Looked (decide (a.ky = p.kb) && (cmpR (dotR a.Y p.B) a.V == 0)) w) := by
  have hW0 : Below w.heap.size w ((w.alloc (.cells #[.int .i64 p.n, .slice p.ao p.ka p.ca, .slice p.bo p.kb p.cb, .slice p.co p.kc p.cc] 43)).alloc (.cells #[.int .i64 a.kd, .bool a.n1, .slice a.a1 a.k1 a.c1, .bool a.n2, .slice a.a2 a.k2 a.c2, .slice a.xo a.kx a.cx, .slice a.yo a.ky a.cy, .slice a.ro a.kr a.cr] 46)) := (by repeat (first | exact Below.refl _ _ | refine Below.alloc ?_ ?_ _ | refine Below.setCell ?_ ?_ _ | refine Below.drew ?_ | refine below_drewN ?_ _ | (· simp) | omega | (· simp; omega) | exact Below.size (by assumption) | assumption | refine below_call ?_ (by assumption) ?_))
  have bP : BoxL ((w.alloc (.cells #[.int .i64 p.n, .slice p.ao p.ka p.ca, .slice p.bo p.kb p.cb, .slice p.co p.kc p.cc] 43)).alloc (.cells #[.int .i64 a.kd, .bool a.n1, .slice a.a1 a.k1 a.c1, .bool a.n2, .slice a.a2 a.k2 a.c2, .slice a.xo a.kx a.cx, .slice a.yo a.ky a.cy, .slice a.ro a.kr a.cr] 46)) w.heap.size (.int .i64 p.n) (.slice p.ao p.ka p.ca) (.slice p.bo p.kb p.cb) (.slice p.co p.kc p.cc) := (BoxL.new w _ _ _ _ _ rfl).keep ((Below.refl _ _).alloc (Nat.le_refl _) _)
  have bA : BoxA ((w.alloc (.cells #[.int .i64 p.n, .slice p.ao p.ka p.ca, .slice p.bo p.kb p.cb, .slice p.co p.kc p.cc] 43)).alloc (.cells #[.int .i64 a.kd, .bool a.n1, .slice a.a1 a.k1 a.c1, .bool a.n2, .slice a.a2 a.k2 a.c2, .slice a.xo a.kx a.cx, .slice a.yo a.ky a.cy, .slice a.ro a.kr a.cr] 46)) (w.heap.size + 1) a := BoxA.new _ a _ (by simp)
  have HP := hid (hp.below hW0)
  have HA := hid (ha.below hW0)
  have HW := hid hW0
  have fkx := ha.x.len.2
  have fky := ha.y.len.2
  have fkr := ha.r.len.2
  have fkb := hp.b.len.2
  have fkc := hp.c.len.2
  clear hp ha hW0
  obtain ⟨r1, r2, r3, r4, r5, r6⟩ := rightB_iff.1 hR
  have hkc60 : p.kc ≤ 60 := by omega
  have hkb60 : p.kb ≤ 60 := by omega
  clear hR r6
  go_enter Tryz.func66, Tryz.ntmps66
  obtain ⟨z, hz⟩ : ∃ z, cmpR (dotR a.Y p.B) a.V = z := ⟨_, rfl⟩
  have HZ := hid hz
  clear hz
  clear r1 r2 r3 r5
  go_wp2_with fail
  generalize (w.alloc (.cells #[.int .i64 p.n, .slice p.ao p.ka p.ca, .slice p.bo p.kb p.cb, .slice p.co p.kc p.cc] 43)).alloc (.cells #[.int .i64 a.kd, .bool a.n1, .slice a.a1 a.k1 a.c1, .bool a.n2, .slice a.a2 a.k2 a.c2, .slice a.xo a.kx a.cx, .slice a.yo a.ky a.cy, .slice a.ro a.kr a.cr] 46) = W0 at *
  refine (vdot_both _ _ _ _ _ _ _ 6 6 a.Y p.B HA.out.y HP.out.b (by omega) (by omega) (fun h => by omega)).mono ?_
  rintro e w1 (⟨hk, n1, a1, k1, c1, n2, a2, k2, c2, rfl, hI, hb⟩ | ⟨hk, rfl, hb⟩)
  · have hB1 := hb.alloc hb.size (.cells #[.bool n1, .slice a1 k1 c1, .bool n2, .slice a2 k2 c2] 26)
    have hW1 := below_call HW.out hB1 HW.out.size
    have HI := hid (hI.below ((Below.refl _ _).alloc (Nat.le_refl _) (.cells #[.bool n1, .slice a1 k1 c1, .bool n2, .slice a2 k2 c2] 26)))
    have bR : Box4 (w1.alloc (.cells #[.bool n1, .slice a1 k1 c1, .bool n2, .slice a2 k2 c2] 26)) w1.heap.size (.bool n1) (.slice a1 k1 c1) (.bool n2) (.slice a2 k2 c2) := Box4.new _ _ _ _ _ _ rfl
    obtain ⟨x0, x1, x2, x3⟩ := bR.c
    have xl := bR.lt
    obtain ⟨y0, y1, y2, y3, y4, y5, y6, y7⟩ := (bA.keep hB1).c
    have yl := (bA.keep hB1).lt
    have HKE := hid hk
    clear hb hI bR hk
    go_wp2_with fail
    clear x0 x1 x2 x3 xl y0 y1 y2 y3 y4 y5 y6 y7 yl
    refine (ratCmp_any _ _ _ _ 6 (dotR a.Y p.B) a.V HI.out.arg (HA.out.below hB1).v (by have := HKE.out; omega) (by omega)).mono ?_
    rintro e w2 ⟨rfl, hb2⟩
    rw [HZ.out]
    have HR := hid (below_call hW1 hb2 hW1.size)
    clear hb2 hW1 hB1
    go_wp2
    go_ret
    exact ⟨ret_bool (by rw [decide_eq_true HKE.out, HZ.out]; simp), HR.out⟩
  · have hB1 := hb.alloc hb.size (.cells #[.bool false, .slice none 0 0, .bool false, .slice none 0 0] 26)
    have HR := hid (below_call HW.out hB1 HW.out.size)
    have HKE := hid hk
    clear hb hB1 hk
    go_wp2
    go_ret
    exact ⟨ret_bool (by rw [decide_eq_false HKE.out]; simp), HR.out⟩

set_option maxHeartbeats 1600000 in
theorem weightsBelow_any (w : World) (p : LPd) (a : Ansd) (hp : p.At w) (ha : a.At w) (hR : rightB p.n p.ka p.kb p.kc p.M = true) :
    Calls Tryz.prog 69 #[.agg #[.int .i64 p.n, .slice p.ao p.ka p.ca, .slice p.bo p.kb p.cb, .slice p.co p.kc p.cc], .agg #[.int .i64 a.kd, .bool a.n1, .slice a.a1 a.k1 a.c1, .bool a.n2, .slice a.a2 a.k2 a.c2, .slice a.xo a.kx a.cx, .slice a.yo a.ky a.cy, .slice a.ro a.kr a.cr]] w (Looked (decide (a.ky = p.kb) && (decide (cmpR (dotR a.Y p.B) 0 < 0))) w) := by
  have hW0 : Below w.heap.size w ((w.alloc (.cells #[.int .i64 p.n, .slice p.ao p.ka p.ca, .slice p.bo p.kb p.cb, .slice p.co p.kc p.cc] 43)).alloc (.cells #[.int .i64 a.kd, .bool a.n1, .slice a.a1 a.k1 a.c1, .bool a.n2, .slice a.a2 a.k2 a.c2, .slice a.xo a.kx a.cx, .slice a.yo a.ky a.cy, .slice a.ro a.kr a.cr] 46)) := (by repeat (first | exact Below.refl _ _ | refine Below.alloc ?_ ?_ _ | refine Below.setCell ?_ ?_ _ | refine Below.drew ?_ | refine below_drewN ?_ _ | (· simp) | omega | (· simp; omega) | exact Below.size (by assumption) | assumption | refine below_call ?_ (by assumption) ?_))
  have bP : BoxL ((w.alloc (.cells #[.int .i64 p.n, .slice p.ao p.ka p.ca, .slice p.bo p.kb p.cb, .slice p.co p.kc p.cc] 43)).alloc (.cells #[.int .i64 a.kd, .bool a.n1, .slice a.a1 a.k1 a.c1, .bool a.n2, .slice a.a2 a.k2 a.c2, .slice a.xo a.kx a.cx, .slice a.yo a.ky a.cy, .slice a.ro a.kr a.cr] 46)) w.heap.size (.int .i64 p.n) (.slice p.ao p.ka p.ca) (.slice p.bo p.kb p.cb) (.slice p.co p.kc p.cc) := (BoxL.new w _ _ _ _ _ rfl).keep ((Below.refl _ _).alloc (Nat.le_refl _) _)
  have bA : BoxA ((w.alloc (.cells #[.int .i64 p.n, .slice p.ao p.ka p.ca, .slice p.bo p.kb p.cb, .slice p.co p.kc p.cc] 43)).alloc (.cells #[.int .i64 a.kd, .bool a.n1, .slice a.a1 a.k1 a.c1, .bool a.n2, .slice a.a2 a.k2 a.c2, .slice a.xo a.kx a.cx, .slice a.yo a.ky a.cy, .slice a.ro a.kr a.cr] 46)) (w.heap.size + 1) a := BoxA.new _ a _ (by simp)
  have HP := hid (hp.below hW0)
  have HA := hid (ha.below hW0)
  have HW := hid hW0
  have fkx := ha.x.len.2
  have fky := ha.y.len.2
  have fkr := ha.r.len.2
  have fkb := hp.b.len.2
  have fkc := hp.c.len.2
  clear hp ha hW0
  obtain ⟨r1, r2, r3, r4, r5, r6⟩ := rightB_iff.1 hR
  have hkc60 : p.kc ≤ 60 := by omega
  have hkb60 : p.kb ≤ 60 := by omega
  clear hR r6
  go_enter Tryz.func69, Tryz.ntmps69
  obtain ⟨z, hz⟩ : ∃ z, cmpR (dotR a.Y p.B) 0 = z := ⟨_, rfl⟩
  have HZ := hid hz
  clear hz
  clear r1 r2 r3 r5
  go_wp2_with fail
  generalize (w.alloc (.cells #[.int .i64 p.n, .slice p.ao p.ka p.ca, .slice p.bo p.kb p.cb, .slice p.co p.kc p.cc] 43)).alloc (.cells #[.int .i64 a.kd, .bool a.n1, .slice a.a1 a.k1 a.c1, .bool a.n2, .slice a.a2 a.k2 a.c2, .slice a.xo a.kx a.cx, .slice a.yo a.ky a.cy, .slice a.ro a.kr a.cr] 46) = W0 at *
  refine (vdot_both _ _ _ _ _ _ _ 6 6 a.Y p.B HA.out.y HP.out.b (by omega) (by omega) (fun h => by omega)).mono ?_
  rintro e w1 (⟨hk, n1, a1, k1, c1, n2, a2, k2, c2, rfl, hI, hb⟩ | ⟨hk, rfl, hb⟩)
  · have hB1 := hb.alloc hb.size (.cells #[.bool n1, .slice a1 k1 c1, .bool n2, .slice a2 k2 c2] 26)
    have hW1 := below_call HW.out hB1 HW.out.size
    have HI := hid (hI.below ((Below.refl _ _).alloc (Nat.le_refl _) (.cells #[.bool n1, .slice a1 k1 c1, .bool n2, .slice a2 k2 c2] 26)))
    have bR : Box4 (w1.alloc (.cells #[.bool n1, .slice a1 k1 c1, .bool n2, .slice a2 k2 c2] 26)) w1.heap.size (.bool n1) (.slice a1 k1 c1) (.bool n2) (.slice a2 k2 c2) := Box4.new _ _ _ _ _ _ rfl
    obtain ⟨x0, x1, x2, x3⟩ := bR.c
    have xl := bR.lt
    obtain ⟨y0, y1, y2, y3, y4, y5, y6, y7⟩ := (bA.keep hB1).c
    have yl := (bA.keep hB1).lt
    have HKE := hid hk
    clear hb hI bR hk
    go_wp2_with fail
    clear x0 x1 x2 x3 xl y0 y1 y2 y3 y4 y5 y6 y7 yl
    refine (lpSign_any _ _ _ (dotR a.Y p.B) HI.out.arg (by have := HKE.out; omega)).mono ?_
    rintro e w2 ⟨rfl, hb2⟩
    rw [HZ.out]
    have HR := hid (below_call hW1 hb2 hW1.size)
    clear hb2 hW1 hB1
    go_wp2
    go_ret
    exact ⟨ret_bool (by rw [decide_eq_true HKE.out, HZ.out]; simp), HR.out⟩
  · have hB1 := hb.alloc hb.size (.cells #[.bool false, .slice none 0 0, .bool false, .slice none 0 0] 26)
    have HR := hid (below_call HW.out hB1 HW.out.size)
    have HKE := hid hk
    clear hb hB1 hk
    go_wp2
    go_ret
    exact ⟨ret_bool (by rw [decide_eq_false HKE.out]; simp), HR.out⟩

end Go.Proofs.YtmnlggmdomcajaaGreat
