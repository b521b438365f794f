/-
  The looks that ask for the weights.
-/
import Derived.Test.YtmnlggmdomcajaaGreatL8
namespace Go.Proofs.YtmnlggmdomcajaaGreat
open Go.RowKit Lm
set_option linter.unusedSimpArgs false
set_option linter.unusedVariables false
set_option maxRecDepth 100000

def LeftSay2 (w : World) (ky ka nn N : Nat) (R : List Rat) (e : Ending) (w' : World) : Prop :=
  (ky = ka ∧ ∃ ro rc, e = .returned (.tuple #[.slice ro nn rc, .int .i64 0]) ∧ QSl w' (.slice ro nn rc) N R ∧ Below w.heap.size w w') ∨ (ky ≠ ka ∧ e = .returned (.tuple #[.slice none 0 0, .int .i64 1]) ∧ Below w.heap.size w w')
theorem vleft_both (w : World) (yo ao : Option Addr) (ky ka cy ca s m nn : Nat) (n : Int) (M : List (List Rat)) (Y : List Rat) (hn : n = nn) (hn1 : nn ≤ 1000) (hk : ka = M.length) (hl : ka ≤ 60) (hM : QTab w ao ca s M) (hY : QSl w (.slice yo ky cy) m Y) (hw : wide M n = true) (hs : 1 ≤ s) (hm : 1 ≤ m) (hz : (s + m) * 60 ≤ 14000) :
    Calls Tryz.prog 110 #[.slice yo ky cy, .slice ao ka ca, .int .i64 n] w (LeftSay2 w ky ka nn ((s + m) * ka + 1) (timesR (cols M nn) Y)) := by
  subst hn
  by_cases h : ky = ka
  · subst h
    refine (Left_any w yo ao ky cy ca nn s m M Y hk (by omega) hn1 hM hY hw hs hm (Nat.le_trans (Nat.mul_le_mul_left _ hl) hz)).mono ?_
    rintro e w' ⟨ro, k, rc, rfl, hk2, hQ, hb⟩
    rw [timesR_len, cols_len] at hk2
    subst hk2
    exact .inl ⟨rfl, ro, rc, rfl, hQ.sl, hb⟩
  · refine (Left_no w yo ao ky ka cy ca s nn M hk hY.len.2 hM (.inr (.inr (.inl h)))).mono ?_
    rintro e w' ⟨rfl, hb⟩
    exact .inr ⟨h, rfl, hb⟩
/-- None is below nought. -/
def fitB (Y : List Rat) : Nat → Bool := fun i => decide (0 ≤ cmpR (Y.getD i 0) 0)
def evenB (A B : List Rat) : Nat → Bool := fun i => cmpR (A.getD i 0) (B.getD i 0) == 0
def zeroB (A : List Rat) : Nat → Bool := fun i => cmpR (A.getD i 0) 0 == 0
theorem getD_at {A : List Rat} {i : Nat} (h : i < A.length) : A.getD i 0 = A[i] := by rw [List.getD_eq_getElem?_getD, List.getElem?_eq_getElem h]; rfl

set_option maxHeartbeats 1600000 in
theorem weightsFit_any (w : World) (p : LPd) (a : Ansd) (hp : p.At w) (ha : a.At w) :
    Calls Tryz.prog 63 #[.agg #[.int .i64 p.n, .slice p.ao p.ka p.ca, .slice p.bo p.kb p.cb, .slice p.co p.kc p.cc], .agg #[.int .i64 a.kd, .bool a.n1, .slice a.a1 a.k1 a.c1, .bool a.n2, .slice a.a2 a.k2 a.c2, .slice a.xo a.kx a.cx, .slice a.yo a.ky a.cy, .slice a.ro a.kr a.cr]] w (Looked (decide (a.ky = p.ka) && allB (fitB a.Y) a.ky) w) := by
  have hW0 : Below w.heap.size w ((w.alloc (.cells #[.int .i64 p.n, .slice p.ao p.ka p.ca, .slice p.bo p.kb p.cb, .slice p.co p.kc p.cc] 43)).alloc (.cells #[.int .i64 a.kd, .bool a.n1, .slice a.a1 a.k1 a.c1, .bool a.n2, .slice a.a2 a.k2 a.c2, .slice a.xo a.kx a.cx, .slice a.yo a.ky a.cy, .slice a.ro a.kr a.cr] 46)) := (by repeat (first | exact Below.refl _ _ | refine Below.alloc ?_ ?_ _ | refine Below.setCell ?_ ?_ _ | refine Below.drew ?_ | refine below_drewN ?_ _ | (· simp) | omega | (· simp; omega) | exact Below.size (by assumption) | assumption | refine below_call ?_ (by assumption) ?_))
  have bP : BoxL ((w.alloc (.cells #[.int .i64 p.n, .slice p.ao p.ka p.ca, .slice p.bo p.kb p.cb, .slice p.co p.kc p.cc] 43)).alloc (.cells #[.int .i64 a.kd, .bool a.n1, .slice a.a1 a.k1 a.c1, .bool a.n2, .slice a.a2 a.k2 a.c2, .slice a.xo a.kx a.cx, .slice a.yo a.ky a.cy, .slice a.ro a.kr a.cr] 46)) w.heap.size (.int .i64 p.n) (.slice p.ao p.ka p.ca) (.slice p.bo p.kb p.cb) (.slice p.co p.kc p.cc) := (BoxL.new w _ _ _ _ _ rfl).keep ((Below.refl _ _).alloc (Nat.le_refl _) _)
  have bA : BoxA ((w.alloc (.cells #[.int .i64 p.n, .slice p.ao p.ka p.ca, .slice p.bo p.kb p.cb, .slice p.co p.kc p.cc] 43)).alloc (.cells #[.int .i64 a.kd, .bool a.n1, .slice a.a1 a.k1 a.c1, .bool a.n2, .slice a.a2 a.k2 a.c2, .slice a.xo a.kx a.cx, .slice a.yo a.ky a.cy, .slice a.ro a.kr a.cr] 46)) (w.heap.size + 1) a := BoxA.new _ a _ (by simp)
  have HP := hid (hp.below hW0)
  have HA := hid (ha.below hW0)
  have HW := hid hW0
  have fkx := ha.x.len.2
  have fky := ha.y.len.2
  have fkr := ha.r.len.2
  have fkb := hp.b.len.2
  have fkc := hp.c.len.2
  clear hp ha hW0
  go_enter Tryz.func63, Tryz.ntmps63
  have HYL := hid HA.out.y.len.1
  have fka : p.ka ≤ 9223372036854775807 := by have h1 := HP.out.k; have h2 := HP.out.a.len; omega
  obtain ⟨x0, x1, x2, x3⟩ := bP.c
  have xl := bP.lt
  obtain ⟨y0, y1, y2, y3, y4, y5, y6, y7⟩ := bA.c
  have yl := bA.lt
  by_cases hk : a.ky = p.ka
  · have hkb : ((a.ky : Int) == (p.ka : Int)) = true := by simp [hk]
    have HKE := hid hk
    clear hk
    go_wp2_with fail
    generalize (w.alloc (.cells #[.int .i64 p.n, .slice p.ao p.ka p.ca, .slice p.bo p.kb p.cb, .slice p.co p.kc p.cc] 43)).alloc (.cells #[.int .i64 a.kd, .bool a.n1, .slice a.a1 a.k1 a.c1, .bool a.n2, .slice a.a2 a.k2 a.c2, .slice a.xo a.kx a.cx, .slice a.yo a.ky a.cy, .slice a.ro a.kr a.cr] 46) = W0 at *
    refine (each_fit _ _ _ _ 6 a.Y (fitB a.Y) HYL.out HA.out.y (fun i hi W x hb hx => ?_)).mono ?_
    · refine (fit1_any W _ x 6 a.Y[i] hx (by omega)).mono ?_
      rintro e w' ⟨rfl, hb'⟩
      exact ⟨ret_bool (by rw [fitB, getD_at hi]), hb'⟩
    · rintro e w1 ⟨rfl, hb⟩
      have HR := hid (below_call HW.out hb HW.out.size)
      obtain ⟨b, hB⟩ : ∃ b, allB (fitB a.Y) a.ky = b := ⟨_, rfl⟩
      have HBB := hid hB
      rw [hB]
      clear hb hB
      go_wp2
      go_ret
      exact ⟨ret_bool (by rw [decide_eq_true HKE.out, HBB.out]; simp), HR.out⟩
  · have hkb : ((a.ky : Int) == (p.ka : Int)) = false := by simp; omega
    have HKE := hid hk
    clear hk
    go_wp2
    go_ret
    exact ⟨ret_bool (by rw [decide_eq_false HKE.out]; simp), HW.out⟩

set_option maxHeartbeats 1600000 in
theorem weightsMakeN_any (w : World) (p : LPd) (a : Ansd) (hp : p.At w) (ha : a.At w) (hR : rightB p.n p.ka p.kb p.kc p.M = true) (nn : Nat) (hnn : p.n = nn) :
    Calls Tryz.prog 68 #[.agg #[.int .i64 p.n, .slice p.ao p.ka p.ca, .slice p.bo p.kb p.cb, .slice p.co p.kc p.cc], .agg #[.int .i64 a.kd, .bool a.n1, .slice a.a1 a.k1 a.c1, .bool a.n2, .slice a.a2 a.k2 a.c2, .slice a.xo a.kx a.cx, .slice a.yo a.ky a.cy, .slice a.ro a.kr a.cr]] w (Looked (decide (a.ky = p.ka) && allB (zeroB (timesR (cols p.M nn) a.Y)) nn) w) := by
  have hW0 : Below w.heap.size w ((w.alloc (.cells #[.int .i64 p.n, .slice p.ao p.ka p.ca, .slice p.bo p.kb p.cb, .slice p.co p.kc p.cc] 43)).alloc (.cells #[.int .i64 a.kd, .bool a.n1, .slice a.a1 a.k1 a.c1, .bool a.n2, .slice a.a2 a.k2 a.c2, .slice a.xo a.kx a.cx, .slice a.yo a.ky a.cy, .slice a.ro a.kr a.cr] 46)) := (by repeat (first | exact Below.refl _ _ | refine Below.alloc ?_ ?_ _ | refine Below.setCell ?_ ?_ _ | refine Below.drew ?_ | refine below_drewN ?_ _ | (· simp) | omega | (· simp; omega) | exact Below.size (by assumption) | assumption | refine below_call ?_ (by assumption) ?_))
  have bP : BoxL ((w.alloc (.cells #[.int .i64 p.n, .slice p.ao p.ka p.ca, .slice p.bo p.kb p.cb, .slice p.co p.kc p.cc] 43)).alloc (.cells #[.int .i64 a.kd, .bool a.n1, .slice a.a1 a.k1 a.c1, .bool a.n2, .slice a.a2 a.k2 a.c2, .slice a.xo a.kx a.cx, .slice a.yo a.ky a.cy, .slice a.ro a.kr a.cr] 46)) w.heap.size (.int .i64 p.n) (.slice p.ao p.ka p.ca) (.slice p.bo p.kb p.cb) (.slice p.co p.kc p.cc) := (BoxL.new w _ _ _ _ _ rfl).keep ((Below.refl _ _).alloc (Nat.le_refl _) _)
  have bA : BoxA ((w.alloc (.cells #[.int .i64 p.n, .slice p.ao p.ka p.ca, .slice p.bo p.kb p.cb, .slice p.co p.kc p.cc] 43)).alloc (.cells #[.int .i64 a.kd, .bool a.n1, .slice a.a1 a.k1 a.c1, .bool a.n2, .slice a.a2 a.k2 a.c2, .slice a.xo a.kx a.cx, .slice a.yo a.ky a.cy, .slice a.ro a.kr a.cr] 46)) (w.heap.size + 1) a := BoxA.new _ a _ (by simp)
  have HP := hid (hp.below hW0)
  have HA := hid (ha.below hW0)
  have HW := hid hW0
  have fkx := ha.x.len.2
  have fky := ha.y.len.2
  have fkr := ha.r.len.2
  have fkb := hp.b.len.2
  have fkc := hp.c.len.2
  clear hp ha hW0
  obtain ⟨r1, r2, r3, r4, r5, r6⟩ := rightB_iff.1 hR
  have HWD := hid r6
  have HNN := hid hnn
  have hn60 : nn ≤ 60 := by omega
  have hkc : p.kc = nn := by omega
  have HKC := hid hkc
  clear hR r6 hnn r3 r5 r1 r2 hkc
  go_enter Tryz.func68, Tryz.ntmps68
  go_wp2_with fail
  generalize (w.alloc (.cells #[.int .i64 p.n, .slice p.ao p.ka p.ca, .slice p.bo p.kb p.cb, .slice p.co p.kc p.cc] 43)).alloc (.cells #[.int .i64 a.kd, .bool a.n1, .slice a.a1 a.k1 a.c1, .bool a.n2, .slice a.a2 a.k2 a.c2, .slice a.xo a.kx a.cx, .slice a.yo a.ky a.cy, .slice a.ro a.kr a.cr] 46) = W0 at *
  refine (vleft_both _ _ _ _ _ _ _ 6 6 nn p.n p.M a.Y HNN.out (by omega) HP.out.k r4 HP.out.a HA.out.y HWD.out (by omega) (by omega) (by omega)).mono ?_
  rintro e w1 (⟨hk, ro, rc, rfl, hQ, hb⟩ | ⟨hk, rfl, hb⟩)
  · have hW1 := below_call HW.out hb HW.out.size
    replace bP := bP.keep hb
    replace HP := hid (HP.out.below hb)
    have HQ := hid hQ
    have HQL : Hid (nn = (timesR (cols p.M nn) a.Y).length) := hid (by rw [timesR_len, cols_len])
    have HKE := hid hk
    have hkz : (6 + 6) * p.ka + 1 ≤ 5000 := by omega
    clear hb hQ hk
    generalize timesR (cols p.M nn) a.Y = LL at *
    go_wp2_with fail
    refine (each_makeN _ _ _ _ ((6 + 6) * p.ka + 1) LL (zeroB LL) HQL.out HQ.out (fun i hi W x hb hx => ?_)).mono ?_
    · refine (makeN1_any W _ x _ LL[i] hx hkz).mono ?_
      rintro e w' ⟨rfl, hb'⟩
      exact ⟨ret_bool (by rw [zeroB, getD_at hi]), hb'⟩
    · rintro e w2 ⟨rfl, hb2⟩
      have HR := hid (below_call hW1 hb2 hW1.size)
      obtain ⟨b, hB⟩ : ∃ b, allB (zeroB LL) nn = b := ⟨_, rfl⟩
      have HBB := hid hB
      rw [hB]
      clear hb2 hB hW1
      go_wp2
      go_ret
      exact ⟨ret_bool (by rw [decide_eq_true HKE.out, HBB.out]; simp), HR.out⟩
  · have HR := hid (below_call HW.out hb HW.out.size)
    have HKE := hid hk
    clear hb hk
    go_wp2
    go_ret
    exact ⟨ret_bool (by rw [decide_eq_false HKE.out]; simp), HR.out⟩

set_option maxHeartbeats 1600000 in
theorem weightsMakeC_any (w : World) (p : LPd) (a : Ansd) (hp : p.At w) (ha : a.At w) (hR : rightB p.n p.ka p.kb p.kc p.M = true) (nn : Nat) (hnn : p.n = nn) :
    Calls Tryz.prog 64 #[.agg #[.int .i64 p.n, .slice p.ao p.ka p.ca, .slice p.bo p.kb p.cb, .slice p.co p.kc p.cc], .agg #[.int .i64 a.kd, .bool a.n1, .slice a.a1 a.k1 a.c1, .bool a.n2, .slice a.a2 a.k2 a.c2, .slice a.xo a.kx a.cx, .slice a.yo a.ky a.cy, .slice a.ro a.kr a.cr]] w (Looked (decide (a.ky = p.ka) && allB (evenB (timesR (cols p.M nn) a.Y) p.C) nn) w) := by
  have hW0 : Below w.heap.size w ((w.alloc (.cells #[.int .i64 p.n, .slice p.ao p.ka p.ca, .slice p.bo p.kb p.cb, .slice p.co p.kc p.cc] 43)).alloc (.cells #[.int .i64 a.kd, .bool a.n1, .slice a.a1 a.k1 a.c1, .bool a.n2, .slice a.a2 a.k2 a.c2, .slice a.xo a.kx a.cx, .slice a.yo a.ky a.cy, .slice a.ro a.kr a.cr] 46)) := (by repeat (first | exact Below.refl _ _ | refine Below.alloc ?_ ?_ _ | refine Below.setCell ?_ ?_ _ | refine Below.drew ?_ | refine below_drewN ?_ _ | (· simp) | omega | (· simp; omega) | exact Below.size (by assumption) | assumption | refine below_call ?_ (by assumption) ?_))
  have bP : BoxL ((w.alloc (.cells #[.int .i64 p.n, .slice p.ao p.ka p.ca, .slice p.bo p.kb p.cb, .slice p.co p.kc p.cc] 43)).alloc (.cells #[.int .i64 a.kd, .bool a.n1, .slice a.a1 a.k1 a.c1, .bool a.n2, .slice a.a2 a.k2 a.c2, .slice a.xo a.kx a.cx, .slice a.yo a.ky a.cy, .slice a.ro a.kr a.cr] 46)) w.heap.size (.int .i64 p.n) (.slice p.ao p.ka p.ca) (.slice p.bo p.kb p.cb) (.slice p.co p.kc p.cc) := (BoxL.new w _ _ _ _ _ rfl).keep ((Below.refl _ _).alloc (Nat.le_refl _) _)
  have bA : BoxA ((w.alloc (.cells #[.int .i64 p.n, .slice p.ao p.ka p.ca, .slice p.bo p.kb p.cb, .slice p.co p.kc p.cc] 43)).alloc (.cells #[.int .i64 a.kd, .bool a.n1, .slice a.a1 a.k1 a.c1, .bool a.n2, .slice a.a2 a.k2 a.c2, .slice a.xo a.kx a.cx, .slice a.yo a.ky a.cy, .slice a.ro a.kr a.cr] 46)) (w.heap.size + 1) a := BoxA.new _ a _ (by simp)
  have HP := hid (hp.below hW0)
  have HA := hid (ha.below hW0)
  have HW := hid hW0
  have fkx := ha.x.len.2
  have fky := ha.y.len.2
  have fkr := ha.r.len.2
  have fkb := hp.b.len.2
  have fkc := hp.c.len.2
  clear hp ha hW0
  obtain ⟨r1, r2, r3, r4, r5, r6⟩ := rightB_iff.1 hR
  have HWD := hid r6
  have HNN := hid hnn
  have hn60 : nn ≤ 60 := by omega
  have hkc : p.kc = nn := by omega
  have HKC := hid hkc
  clear hR r6 hnn r3 r5 r1 r2 hkc
  go_enter Tryz.func64, Tryz.ntmps64
  go_wp2_with fail
  generalize (w.alloc (.cells #[.int .i64 p.n, .slice p.ao p.ka p.ca, .slice p.bo p.kb p.cb, .slice p.co p.kc p.cc] 43)).alloc (.cells #[.int .i64 a.kd, .bool a.n1, .slice a.a1 a.k1 a.c1, .bool a.n2, .slice a.a2 a.k2 a.c2, .slice a.xo a.kx a.cx, .slice a.yo a.ky a.cy, .slice a.ro a.kr a.cr] 46) = W0 at *
  refine (vleft_both _ _ _ _ _ _ _ 6 6 nn p.n p.M a.Y HNN.out (by omega) HP.out.k r4 HP.out.a HA.out.y HWD.out (by omega) (by omega) (by omega)).mono ?_
  rintro e w1 (⟨hk, ro, rc, rfl, hQ, hb⟩ | ⟨hk, rfl, hb⟩)
  · have hW1 := below_call HW.out hb HW.out.size
    replace bP := bP.keep hb
    replace HP := hid (HP.out.below hb)
    have HQ := hid hQ
    have HQL : Hid (nn = (timesR (cols p.M nn) a.Y).length) := hid (by rw [timesR_len, cols_len])
    have HKE := hid hk
    have hkz : (6 + 6) * p.ka + 1 ≤ 5000 := by omega
    clear hb hQ hk
    generalize timesR (cols p.M nn) a.Y = LL at *
    go_wp2_with fail
    refine (each_makeC _ _ _ _ ((6 + 6) * p.ka + 1) LL _ (evenB LL p.C) HQL.out HQ.out (fun i hi W x hb hx => ?_)).mono ?_
    · have hiC : i < p.C.length := by
        have h1 := HP.out.c.len.1
        have h2 := HKC.out
        have h3 := HQL.out
        omega
      refine (makeC1_any W _ i x _ 6 p.kc p.cc p.co LL[i] p.C _ _ _ hx (HP.out.c.below hb) hiC (bP.keep hb) hkz (by omega)).mono ?_
      rintro e w' ⟨rfl, hb'⟩
      exact ⟨ret_bool (by rw [evenB, getD_at hi, getD_at hiC]), hb'⟩
    · rintro e w2 ⟨rfl, hb2⟩
      have HR := hid (below_call hW1 hb2 hW1.size)
      obtain ⟨b, hB⟩ : ∃ b, allB (evenB LL p.C) nn = b := ⟨_, rfl⟩
      have HBB := hid hB
      rw [hB]
      clear hb2 hB hW1
      go_wp2
      go_ret
      exact ⟨ret_bool (by rw [decide_eq_true HKE.out, HBB.out]; simp), HR.out⟩
  · have HR := hid (below_call HW.out hb HW.out.size)
    have HKE := hid hk
    clear hb hk
    go_wp2
    go_ret
    exact ⟨ret_bool (by rw [decide_eq_false HKE.out]; simp), HR.out⟩

end Go.Proofs.YtmnlggmdomcajaaGreat
