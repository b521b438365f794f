/-
  Walks: the least form of a quotient.
-/
import Derived.Test.YtiicjfacekldnaaW31
namespace Go.Proofs.Ytiicjfacekldnaa
open Go.RowKit Lm
set_option linter.unusedSimpArgs false
set_option linter.unusedVariables false
set_option maxRecDepth 100000

theorem Box4.other {w : World} {b : Nat} {p q r s : Value} (h : Box4 w b p q r s) {a : Addr} (ha : b ≠ a.block) (u : Value) : Box4 (w.setCell a u) b p q r s := (heap_setCell_other w a b u ha).trans h
theorem Box4.alloc {w : World} {b : Nat} {p q r s : Value} (h : Box4 w b p q r s) (o : Obj) : Box4 (w.alloc o) b p q r s := (Below.heap_alloc w o b h.lt).trans h

/-- What both are divided by: what divides both, with the sign of the second. -/
def dv (x y : Int) : Int := if y < 0 then -((Nat.gcd x.natAbs y.natAbs : Nat) : Int) else ((Nat.gcd x.natAbs y.natAbs : Nat) : Int)
theorem dv_ne (x : Int) {y : Int} (h : y ≠ 0) : dv x y ≠ 0 := by
  have : 0 < Nat.gcd x.natAbs y.natAbs := Nat.gcd_pos_of_pos_right _ (by omega)
  unfold dv
  split <;> omega

set_option maxHeartbeats 3200000 in
theorem least_any (w : World) (u v : Value) (n m : Nat) (x y : Int) (hx : Arg w u n x) (hy : Arg w v m y) (hy0 : y ≠ 0) (hn : n ≤ 100000) (hm : m ≤ 100000) :
    Calls Try.prog 84 #[u, v] w (RTold w.heap.size (n + m) (x.tdiv (dv x y)) (y.tdiv (dv x y)) w) := by
  have HX := hid hx
  have HY := hid hy
  have HD0 := hid (dv_ne x hy0)
  obtain ⟨n1, s1, l1, rfl, -⟩ := hx
  obtain ⟨n2, s2, l2, rfl, -⟩ := hy
  go_enter Try.func84, Try.ntmps84
  go_wp2_with fail
  have hW0 : Below w.heap.size w (((w.alloc (.cells #[.bool n1, s1] 24)).alloc (.cells #[.bool n2, s2] 24)).alloc (.cells #[.bool false, .slice none 0 0, .bool false, .slice none 0 0] 43)) := (by repeat (first | exact Below.refl _ _ | refine Below.alloc ?_ ?_ _ | refine Below.setCell ?_ ?_ _ | refine Below.drew ?_ | refine below_drewN ?_ _ | (· simp) | omega | (· simp; omega) | exact Below.size (by assumption) | assumption | refine below_call ?_ (by assumption) ?_))
  have bP : Box (((w.alloc (.cells #[.bool n1, s1] 24)).alloc (.cells #[.bool n2, s2] 24)).alloc (.cells #[.bool false, .slice none 0 0, .bool false, .slice none 0 0] 43)) w.heap.size (.bool n1) s1 := ((Box.new w _ _ _ rfl).alloc _).alloc _
  have bQ : Box (((w.alloc (.cells #[.bool n1, s1] 24)).alloc (.cells #[.bool n2, s2] 24)).alloc (.cells #[.bool false, .slice none 0 0, .bool false, .slice none 0 0] 43)) (w.heap.size + 1) (.bool n2) s2 := (Box.new _ _ _ _ (by simp)).alloc _
  have bR : Box4 (((w.alloc (.cells #[.bool n1, s1] 24)).alloc (.cells #[.bool n2, s2] 24)).alloc (.cells #[.bool false, .slice none 0 0, .bool false, .slice none 0 0] 43)) (w.heap.size + 1 + 1) (.bool false) (.slice none 0 0) (.bool false) (.slice none 0 0) := Box4.new _ _ _ _ _ _ (by simp)
  have hs0 : (((w.alloc (.cells #[.bool n1, s1] 24)).alloc (.cells #[.bool n2, s2] 24)).alloc (.cells #[.bool false, .slice none 0 0, .bool false, .slice none 0 0] 43)).heap.size = w.heap.size + 3 := by simp
  generalize ((w.alloc (.cells #[.bool n1, s1] 24)).alloc (.cells #[.bool n2, s2] 24)).alloc (.cells #[.bool false, .slice none 0 0, .bool false, .slice none 0 0] 43) = W0 at *
  refine (gcd_num _ _ _ n m x y (HX.out.below hW0) (HY.out.below hW0) (by omega) (by omega)).mono ?_
  rintro e w1 ⟨ng, ag, kg, cg, rfl, I1, hb1⟩
  have hW1 := below_call hW0 hb1 hW0.size
  have hz1 := hb1.size
  replace bP := bP.keep hb1
  replace bQ := bQ.keep hb1
  replace bR := bR.keep hb1
  have p0 := bP.c0
  have p1 := bP.c1
  have q0 := bQ.c0
  have q1 := bQ.c1
  have lP := bP.lt
  have lQ := bQ.lt
  have I1' := hid (I1.alloc (.cells #[.bool ng, .slice ag kg cg] 24))
  have bD := Box.new w1 (.bool ng) (.slice ag kg cg) w1.heap.size rfl
  replace bP := bP.alloc (.cells #[.bool ng, .slice ag kg cg] 24)
  replace bQ := bQ.alloc (.cells #[.bool ng, .slice ag kg cg] 24)
  replace bR := bR.alloc (.cells #[.bool ng, .slice ag kg cg] 24)
  have hWa : Below w.heap.size w (w1.alloc (.cells #[.bool ng, .slice ag kg cg] 24)) := hW1.alloc hW1.size _
  clear hb1 I1 hW0 hW1
  go_wp2_with fail
  clear p0 p1 q0 q1
  have hg5 : w.heap.size + 3 ≤ w1.heap.size := by omega
  generalize hga : w1.alloc (.cells #[.bool ng, .slice ag kg cg] 24) = W1 at *
  refine (sign_any _ _ m y (HY.out.below hWa)).mono ?_
  rintro e w2 ⟨rfl, hb2⟩
  replace bP := bP.keep hb2
  replace bQ := bQ.keep hb2
  replace bR := bR.keep hb2
  replace bD := bD.keep hb2
  have hWD := below_call hWa hb2 hWa.size
  have ID0 := hid (I1'.out.below hb2)
  have hzz := hb2.size
  have hz0 : w1.heap.size < w2.heap.size := by
    have : W1.heap.size = w1.heap.size + 1 := by rw [← hga]; simp
    omega
  clear hb2 I1' hWa hga hzz
  by_cases hyn : y < 0
  · have hcm : cmpI y 0 = -1 := cmpI_lt hyn
    have HDV : Hid (dv x y = -((Nat.gcd x.natAbs y.natAbs : Nat) : Int)) := hid (by unfold dv; rw [if_pos hyn])
    rw [hcm]
    clear hcm hyn
    have d0 := bD.c0
    have d1 := bD.c1
    go_wp2_with fail
    refine (neg_num _ _ (n + m + 2) _ ID0.out.arg (by omega)).mono ?_
    rintro e w5 ⟨nd, ad, kd, cd, rfl, In, hb5⟩
    have hW5 := below_call hWD hb5 hWD.size
    have hz5 := hb5.size
    clear d0 d1
    replace bP := bP.keep hb5
    replace bQ := bQ.keep hb5
    replace bR := bR.keep hb5
    replace bD := bD.keep hb5
    have d0 := bD.c0
    have d1 := bD.c1
    have df := bD.f
    have p0 := bP.c0
    have p1 := bP.c1
    have lP := bP.lt
    have lD5 := bD.lt
    have U1 : Box ((w5.setCell ⟨w1.heap.size, 0, none⟩ (.bool nd)).setCell ⟨w1.heap.size, 1, none⟩ (.slice ad kd cd)) w1.heap.size (.bool nd) (.slice ad kd cd) := (bD.set0 _).set1 _
    have U2 : Box ((w5.setCell ⟨w1.heap.size, 0, none⟩ (.bool nd)).setCell ⟨w1.heap.size, 1, none⟩ (.slice ad kd cd)) w.heap.size (.bool n1) s1 := (bP.other (by show w.heap.size ≠ w1.heap.size; omega) _).other (by show w.heap.size ≠ w1.heap.size; omega) _
    have U3 : Box ((w5.setCell ⟨w1.heap.size, 0, none⟩ (.bool nd)).setCell ⟨w1.heap.size, 1, none⟩ (.slice ad kd cd)) (w.heap.size + 1) (.bool n2) s2 := (bQ.other (by show w.heap.size + 1 ≠ w1.heap.size; omega) _).other (by show w.heap.size + 1 ≠ w1.heap.size; omega) _
    have U4 : Box4 ((w5.setCell ⟨w1.heap.size, 0, none⟩ (.bool nd)).setCell ⟨w1.heap.size, 1, none⟩ (.slice ad kd cd)) (w.heap.size + 1 + 1) (.bool false) (.slice none 0 0) (.bool false) (.slice none 0 0) := (bR.other (by show w.heap.size + 1 + 1 ≠ w1.heap.size; omega) _).other (by show w.heap.size + 1 + 1 ≠ w1.heap.size; omega) _
    have U5 : Is ((w5.setCell ⟨w1.heap.size, 0, none⟩ (.bool nd)).setCell ⟨w1.heap.size, 1, none⟩ (.slice ad kd cd)) w2.heap.size (.agg #[.bool nd, .slice ad kd cd]) (n + m + 2) (dv x y) := by
      rw [HDV.out]
      exact (In.setCell (by show w1.heap.size < _; omega) _).setCell (by show w1.heap.size < _; omega) _
    have U6 : Below w.heap.size w ((w5.setCell ⟨w1.heap.size, 0, none⟩ (.bool nd)).setCell ⟨w1.heap.size, 1, none⟩ (.slice ad kd cd)) := (hW5.setCell (by show w.heap.size ≤ w1.heap.size; omega) _).setCell (by show w.heap.size ≤ w1.heap.size; omega) _
    have U7 : w5.heap.size = ((w5.setCell ⟨w1.heap.size, 0, none⟩ (.bool nd)).setCell ⟨w1.heap.size, 1, none⟩ (.slice ad kd cd)).heap.size := by simp [World.setCell]
    have ID := hid U5
    clear hb5 In hWD hW5 ID0 HDV bP bQ bR bD U5
    go_wp2_with fail
    clear d0 d1 df p0 p1 lP lD5
    generalize (w5.setCell ⟨w1.heap.size, 0, none⟩ (.bool nd)).setCell ⟨w1.heap.size, 1, none⟩ (.slice ad kd cd) = W5 at *
    have bP := U2
    have bQ := U3
    have bR := U4
    have bD := U1
    have hWD := U6
    clear U1 U2 U3 U4 U6
    refine (div_any _ _ _ n (n + m + 2) x (dv x y) (HX.out.below hWD) ID.out.arg HD0.out (by omega) (by omega)).mono ?_
    rintro e w3 ⟨nq, aq, kq, cq, nr, ar, kr, cr, rfl, Iq, -, hb3⟩
    have hW3 := below_call hWD hb3 hWD.size
    have hz3 := hb3.size
    replace bP := bP.keep hb3
    replace bQ := bQ.keep hb3
    replace bR := bR.keep hb3
    replace bD := bD.keep hb3
    have ID3 := ID.out.below hb3
    have V1 : Box ((w3.setCell ⟨w.heap.size, 0, none⟩ (.bool nq)).setCell ⟨w.heap.size, 1, none⟩ (.slice aq kq cq)) w.heap.size (.bool nq) (.slice aq kq cq) := (bP.set0 _).set1 _
    have V2 : Box ((w3.setCell ⟨w.heap.size, 0, none⟩ (.bool nq)).setCell ⟨w.heap.size, 1, none⟩ (.slice aq kq cq)) (w.heap.size + 1) (.bool n2) s2 := (bQ.other (by simp) _).other (by simp) _
    have V3 : Box4 ((w3.setCell ⟨w.heap.size, 0, none⟩ (.bool nq)).setCell ⟨w.heap.size, 1, none⟩ (.slice aq kq cq)) (w.heap.size + 1 + 1) (.bool false) (.slice none 0 0) (.bool false) (.slice none 0 0) := (bR.other (by show w.heap.size + 1 + 1 ≠ w.heap.size; omega) _).other (by show w.heap.size + 1 + 1 ≠ w.heap.size; omega) _
    have V4 : Box ((w3.setCell ⟨w.heap.size, 0, none⟩ (.bool nq)).setCell ⟨w.heap.size, 1, none⟩ (.slice aq kq cq)) w1.heap.size (.bool nd) (.slice ad kd cd) := (bD.other (by simp; omega) _).other (by simp; omega) _
    have V5 : Is ((w3.setCell ⟨w.heap.size, 0, none⟩ (.bool nq)).setCell ⟨w.heap.size, 1, none⟩ (.slice aq kq cq)) _ (.agg #[.bool nq, .slice aq kq cq]) n (x.tdiv (dv x y)) := (Iq.setCell (by simp; omega) _).setCell (by simp; omega) _
    have V6 : Is ((w3.setCell ⟨w.heap.size, 0, none⟩ (.bool nq)).setCell ⟨w.heap.size, 1, none⟩ (.slice aq kq cq)) _ (.agg #[.bool nd, .slice ad kd cd]) (n + m + 2) (dv x y) := (ID3.setCell (by simp; omega) _).setCell (by simp; omega) _
    have V7 : Below w.heap.size w ((w3.setCell ⟨w.heap.size, 0, none⟩ (.bool nq)).setCell ⟨w.heap.size, 1, none⟩ (.slice aq kq cq)) := (hW3.setCell (by simp) _).setCell (by simp) _
    have V8 : w3.heap.size = ((w3.setCell ⟨w.heap.size, 0, none⟩ (.bool nq)).setCell ⟨w.heap.size, 1, none⟩ (.slice aq kq cq)).heap.size := by simp [World.setCell]
    have p0 := bP.c0
    have p1 := bP.c1
    have pf := bP.f
    have q0 := bQ.c0
    have q1 := bQ.c1
    have d0 := bD.c0
    have d1 := bD.c1
    have lD := bD.lt
    have HV5 := hid V5
    have HV6 := hid V6
    clear hb3 Iq ID3 bP bQ bR bD ID V5 V6
    go_wp2_with fail
    clear p0 p1 pf q0 q1 d0 d1
    generalize (w3.setCell ⟨w.heap.size, 0, none⟩ (.bool nq)).setCell ⟨w.heap.size, 1, none⟩ (.slice aq kq cq) = W3 at *
    refine (div_any _ _ _ m (n + m + 2) y (dv x y) (HY.out.below V7) HV6.out.arg HD0.out (by omega) (by omega)).mono ?_
    rintro e w4 ⟨nu, au, ku, cu, nv, av, kv, cv, rfl, Iu, -, hb4⟩
    have hW4 := below_call V7 hb4 V7.size
    have hz4 := hb4.size
    have bP := V1.keep hb4
    have bQ := V2.keep hb4
    have bR := V3.keep hb4
    have IQ := hid (HV5.out.below hb4)
    have IU := hid Iu
    have p0 := bP.c0
    have p1 := bP.c1
    have q0 := bQ.c0
    have q1 := bQ.c1
    have qf := bQ.f
    obtain ⟨r0, r1, r2, r3⟩ := bR.c
    have rf := bR.f
    clear hb4 V1 V2 V3 V4 Iu HV5 HV6 bP bQ bR
    go_wp2
    refine bodyPost_ret (v := .agg #[.bool nq, .slice aq kq cq, .bool nu, .slice au ku cu]) ?_ rfl ⟨nq, aq, kq, cq, nu, au, ku, cu, rfl, ?_, ?_, ((((((hW4.setCell (by show w.heap.size ≤ w.heap.size + 1; omega) _).setCell (by show w.heap.size ≤ w.heap.size + 1; omega) _).setCell (by show w.heap.size ≤ w.heap.size + 1 + 1; omega) _).setCell (by show w.heap.size ≤ w.heap.size + 1 + 1; omega) _).setCell (by show w.heap.size ≤ w.heap.size + 1 + 1; omega) _).setCell (by show w.heap.size ≤ w.heap.size + 1 + 1; omega) _)⟩
    · simp [results, Try.results84, go_sem, r0, r1, r2, r3]
    · exact ((((((IQ.out.setCell (by show w.heap.size + 1 < _; omega) _).setCell (by show w.heap.size + 1 < _; omega) _).setCell (by show w.heap.size + 1 + 1 < _; omega) _).setCell (by show w.heap.size + 1 + 1 < _; omega) _).setCell (by show w.heap.size + 1 + 1 < _; omega) _).setCell (by show w.heap.size + 1 + 1 < _; omega) _).mono (by omega) (by omega)
    · exact ((((((IU.out.setCell (by show w.heap.size + 1 < _; omega) _).setCell (by show w.heap.size + 1 < _; omega) _).setCell (by show w.heap.size + 1 + 1 < _; omega) _).setCell (by show w.heap.size + 1 + 1 < _; omega) _).setCell (by show w.heap.size + 1 + 1 < _; omega) _).setCell (by show w.heap.size + 1 + 1 < _; omega) _).mono (by omega) (by omega)
  · have HDV : Hid (dv x y = ((Nat.gcd x.natAbs y.natAbs : Nat) : Int)) := hid (by unfold dv; rw [if_neg hyn])
    have hcm : cmpI y 0 = 1 := cmpI_gt (by omega)
    rw [hcm]
    clear hcm hyn
    have ID : Hid (Is w2 W0.heap.size (.agg #[.bool ng, .slice ag kg cg]) (n + m + 2) (dv x y)) := hid (by rw [HDV.out]; exact ID0.out)
    clear ID0 HDV
    have p0 := bP.c0
    have p1 := bP.c1
    have d0 := bD.c0
    have d1 := bD.c1
    go_wp2_with fail
    refine (div_any _ _ _ n (n + m + 2) x (dv x y) (HX.out.below hWD) ID.out.arg HD0.out (by omega) (by omega)).mono ?_
    rintro e w3 ⟨nq, aq, kq, cq, nr, ar, kr, cr, rfl, Iq, -, hb3⟩
    have hW3 := below_call hWD hb3 hWD.size
    have hz3 := hb3.size
    clear p0 p1 d0 d1
    replace bP := bP.keep hb3
    replace bQ := bQ.keep hb3
    replace bR := bR.keep hb3
    replace bD := bD.keep hb3
    have ID3 := ID.out.below hb3
    have V1 : Box ((w3.setCell ⟨w.heap.size, 0, none⟩ (.bool nq)).setCell ⟨w.heap.size, 1, none⟩ (.slice aq kq cq)) w.heap.size (.bool nq) (.slice aq kq cq) := (bP.set0 _).set1 _
    have V2 : Box ((w3.setCell ⟨w.heap.size, 0, none⟩ (.bool nq)).setCell ⟨w.heap.size, 1, none⟩ (.slice aq kq cq)) (w.heap.size + 1) (.bool n2) s2 := (bQ.other (by simp) _).other (by simp) _
    have V3 : Box4 ((w3.setCell ⟨w.heap.size, 0, none⟩ (.bool nq)).setCell ⟨w.heap.size, 1, none⟩ (.slice aq kq cq)) (w.heap.size + 1 + 1) (.bool false) (.slice none 0 0) (.bool false) (.slice none 0 0) := (bR.other (by show w.heap.size + 1 + 1 ≠ w.heap.size; omega) _).other (by show w.heap.size + 1 + 1 ≠ w.heap.size; omega) _
    have V4 : Box ((w3.setCell ⟨w.heap.size, 0, none⟩ (.bool nq)).setCell ⟨w.heap.size, 1, none⟩ (.slice aq kq cq)) w1.heap.size (.bool ng) (.slice ag kg cg) := (bD.other (by simp; omega) _).other (by simp; omega) _
    have V5 : Is ((w3.setCell ⟨w.heap.size, 0, none⟩ (.bool nq)).setCell ⟨w.heap.size, 1, none⟩ (.slice aq kq cq)) _ (.agg #[.bool nq, .slice aq kq cq]) n (x.tdiv (dv x y)) := (Iq.setCell (by simp; omega) _).setCell (by simp; omega) _
    have V6 : Is ((w3.setCell ⟨w.heap.size, 0, none⟩ (.bool nq)).setCell ⟨w.heap.size, 1, none⟩ (.slice aq kq cq)) _ (.agg #[.bool ng, .slice ag kg cg]) (n + m + 2) (dv x y) := (ID3.setCell (by simp; omega) _).setCell (by simp; omega) _
    have V7 : Below w.heap.size w ((w3.setCell ⟨w.heap.size, 0, none⟩ (.bool nq)).setCell ⟨w.heap.size, 1, none⟩ (.slice aq kq cq)) := (hW3.setCell (by simp) _).setCell (by simp) _
    have V8 : w3.heap.size = ((w3.setCell ⟨w.heap.size, 0, none⟩ (.bool nq)).setCell ⟨w.heap.size, 1, none⟩ (.slice aq kq cq)).heap.size := by simp [World.setCell]
    have p0 := bP.c0
    have p1 := bP.c1
    have pf := bP.f
    have q0 := bQ.c0
    have q1 := bQ.c1
    have d0 := bD.c0
    have d1 := bD.c1
    have lD := bD.lt
    have HV5 := hid V5
    have HV6 := hid V6
    clear hb3 Iq ID3 bP bQ bR bD ID V5 V6
    go_wp2_with fail
    clear p0 p1 pf q0 q1 d0 d1
    generalize (w3.setCell ⟨w.heap.size, 0, none⟩ (.bool nq)).setCell ⟨w.heap.size, 1, none⟩ (.slice aq kq cq) = W3 at *
    refine (div_any _ _ _ m (n + m + 2) y (dv x y) (HY.out.below V7) HV6.out.arg HD0.out (by omega) (by omega)).mono ?_
    rintro e w4 ⟨nu, au, ku, cu, nv, av, kv, cv, rfl, Iu, -, hb4⟩
    have hW4 := below_call V7 hb4 V7.size
    have hz4 := hb4.size
    have bP := V1.keep hb4
    have bQ := V2.keep hb4
    have bR := V3.keep hb4
    have IQ := hid (HV5.out.below hb4)
    have IU := hid Iu
    have p0 := bP.c0
    have p1 := bP.c1
    have q0 := bQ.c0
    have q1 := bQ.c1
    have qf := bQ.f
    obtain ⟨r0, r1, r2, r3⟩ := bR.c
    have rf := bR.f
    clear hb4 V1 V2 V3 V4 Iu HV5 HV6 bP bQ bR
    go_wp2
    refine bodyPost_ret (v := .agg #[.bool nq, .slice aq kq cq, .bool nu, .slice au ku cu]) ?_ rfl ⟨nq, aq, kq, cq, nu, au, ku, cu, rfl, ?_, ?_, ((((((hW4.setCell (by show w.heap.size ≤ w.heap.size + 1; omega) _).setCell (by show w.heap.size ≤ w.heap.size + 1; omega) _).setCell (by show w.heap.size ≤ w.heap.size + 1 + 1; omega) _).setCell (by show w.heap.size ≤ w.heap.size + 1 + 1; omega) _).setCell (by show w.heap.size ≤ w.heap.size + 1 + 1; omega) _).setCell (by show w.heap.size ≤ w.heap.size + 1 + 1; omega) _)⟩
    · simp [results, Try.results84, go_sem, r0, r1, r2, r3]
    · exact ((((((IQ.out.setCell (by show w.heap.size + 1 < _; omega) _).setCell (by show w.heap.size + 1 < _; omega) _).setCell (by show w.heap.size + 1 + 1 < _; omega) _).setCell (by show w.heap.size + 1 + 1 < _; omega) _).setCell (by show w.heap.size + 1 + 1 < _; omega) _).setCell (by show w.heap.size + 1 + 1 < _; omega) _).mono (by omega) (by omega)
    · exact ((((((IU.out.setCell (by show w.heap.size + 1 < _; omega) _).setCell (by show w.heap.size + 1 < _; omega) _).setCell (by show w.heap.size + 1 + 1 < _; omega) _).setCell (by show w.heap.size + 1 + 1 < _; omega) _).setCell (by show w.heap.size + 1 + 1 < _; omega) _).setCell (by show w.heap.size + 1 + 1 < _; omega) _).mono (by omega) (by omega)

end Go.Proofs.Ytiicjfacekldnaa
