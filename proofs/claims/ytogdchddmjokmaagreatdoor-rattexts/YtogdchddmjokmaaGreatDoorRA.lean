/-
  Walks: the sign of a whole number, as package rat asks for it.
  Walks: quotients in memory; Of.
  Walks: the least form of a quotient.
  Mathematics: quotients as the model of package rat has them, and as Lean's own.
  Walks: whether a quotient may be, and what it counts as.
  What is known from call to call, of numbers and quotients; boxes of quotients that are filled.
  Walks: Quo; a sum of two over the product of their denominators.
  Walks: fold over one quotient; sum.
-/
import Derived.Test.YtogdchddmjokmaaGreatDoorWF

namespace Go.Proofs.YtogdchddmjokmaaGreatDoor
open Go.RowKit Lm
set_option linter.unusedSimpArgs false
set_option linter.unusedVariables false
set_option maxRecDepth 100000

set_option maxHeartbeats 1600000 in
theorem sign_any (w : World) (u : Value) (n : Nat) (x : Int) (hx : Arg w u n x) :
    Calls Tryz.prog 25 #[u] w fun e w' => e = .returned (.int .i64 (cmpI x 0)) ∧ Below w.heap.size w w' := by
  have HX := hid hx
  obtain ⟨n1, s1, l1, rfl, -⟩ := hx
  go_enter Tryz.func25, Tryz.ntmps25
  go_wp2_with fail
  refine (cmp_num _ _ _ n 0 x 0 (HX.out.below (by repeat (first | exact Below.refl _ _ | refine Below.alloc ?_ ?_ _ | refine Below.setCell ?_ ?_ _ | refine Below.drew ?_ | refine below_drewN ?_ _ | (· simp) | omega | (· simp; omega) | exact Below.size (by assumption) | assumption | refine below_call ?_ (by assumption) ?_))) (arg_zero _)).mono ?_
  rintro e w1 ⟨rfl, hb1⟩
  have hW1 : Below w.heap.size w w1 := (by repeat (first | exact Below.refl _ _ | refine Below.alloc ?_ ?_ _ | refine Below.setCell ?_ ?_ _ | refine Below.drew ?_ | refine below_drewN ?_ _ | (· simp) | omega | (· simp; omega) | exact Below.size (by assumption) | assumption | refine below_call ?_ (by assumption) ?_))
  clear hb1
  go_wp2
  go_ret
  exact ⟨rfl, hW1⟩

set_option maxHeartbeats 1600000 in
theorem isOne_any (w : World) (u : Value) (n : Nat) (x : Int) (hx : Arg w u n x) :
    Calls Tryz.prog 21 #[u] w fun e w' => e = .returned (.bool (decide (x = 1))) ∧ Below w.heap.size w w' := by
  have HX := hid hx
  obtain ⟨n1, s1, l1, rfl, -⟩ := hx
  go_enter Tryz.func21, Tryz.ntmps21
  go_wp2_with fail
  have hW0 : Below w.heap.size w (w.alloc (.cells #[.bool n1, s1] 24)) := (by repeat (first | exact Below.refl _ _ | refine Below.alloc ?_ ?_ _ | refine Below.setCell ?_ ?_ _ | refine Below.drew ?_ | refine below_drewN ?_ _ | (· simp) | omega | (· simp; omega) | exact Below.size (by assumption) | assumption | refine below_call ?_ (by assumption) ?_))
  have E : Env w (w.alloc (.cells #[.bool n1, s1] 24)) [(w.heap.size, .bool n1, s1)] [(.agg #[.bool n1, s1], n, x)] [] := by
    refine Env.know ⟨?_, by simp, by simp, hW0⟩ (HX.out.below hW0)
    intro p hp
    simp only [List.mem_cons, List.not_mem_nil, or_false] at hp
    subst hp
    exact Box.new w _ _ _ rfl
  replace E := E.drew
  clear hW0
  go_region_held3 (fun W' => W'.cell? ⟨w.heap.size, 0, none⟩ = some (.bool n1) ∧ W'.cell? ⟨w.heap.size, 1, none⟩ = some s1) (exact cells1 E) (first
    | (go_at_call 30; go_must (refine (env_of E _ (by omega) (by omega)).mono ?_); rintro e wn ⟨nn, an, kn, cn, rfl, En⟩; clear E; have E := En; clear En)
    | (go_at_call 44; go_must (refine (env_cmp2 E (by repeat (first | exact List.Mem.head _ | refine List.Mem.tail _ ?_)) (by repeat (first | exact List.Mem.head _ | refine List.Mem.tail _ ?_))).mono ?_); rintro e wn ⟨rfl, En⟩; clear E; have E := En; clear En))
  have HD : Hid ((cmpI x 1 == 0) = decide (x = 1)) := hid (by
    by_cases h : x = 1
    · rw [cmpI_eq h, decide_eq_true h]; rfl
    · rw [decide_eq_false h]; simpa using cmpI_ne h)
  go_wp2
  go_ret
  exact ⟨ret_bool HD.out, E.bl⟩

end Go.Proofs.YtogdchddmjokmaaGreatDoor

namespace Go.Proofs.YtogdchddmjokmaaGreatDoor
open Go.RowKit Lm
set_option linter.unusedSimpArgs false
set_option linter.unusedVariables false
set_option maxRecDepth 100000

/-- A box of four cells: a quotient. -/
def Box4 (w : World) (b : Nat) (p q r s : Value) : Prop := w.heap[b]? = some (.cells #[p, q, r, s] 26 (0, 0))
theorem Box4.lt {w : World} {b : Nat} {p q r s : Value} (h : Box4 w b p q r s) : b < w.heap.size := (Array.getElem?_eq_some_iff.1 h).1
theorem Box4.c {w : World} {b : Nat} {p q r s : Value} (h : Box4 w b p q r s) : w.cell? ⟨b, 0, none⟩ = some p ∧ w.cell? ⟨b, 1, none⟩ = some q ∧ w.cell? ⟨b, 2, none⟩ = some r ∧ w.cell? ⟨b, 3, none⟩ = some s := by
  refine ⟨?_, ?_, ?_, ?_⟩
  · rw [cell_of_row w b 0 #[p, q, r, s] 26 (0, 0) h]; rfl
  · rw [cell_of_row w b 1 #[p, q, r, s] 26 (0, 0) h]; rfl
  · rw [cell_of_row w b 2 #[p, q, r, s] 26 (0, 0) h]; rfl
  · rw [cell_of_row w b 3 #[p, q, r, s] 26 (0, 0) h]; rfl
theorem Box4.f {w : World} {b : Nat} {p q r s : Value} (h : Box4 w b p q r s) (i : Nat) : w.frozen? ⟨b, i, none⟩ = false := frozen_of_row w b i #[p, q, r, s] 26 h
theorem Box4.new (w : World) (p q r s : Value) (b : Nat) (hb : b = w.heap.size) : Box4 (w.alloc (.cells #[p, q, r, s] 26)) b p q r s := by subst hb; exact heap_alloc_new w _
theorem Box4.keep {w w' : World} {b : Nat} {p q r s : Value} (h : Box4 w b p q r s) (hb : Below w.heap.size w w') : Box4 w' b p q r s := (hb.block b h.lt).trans h

/-- What is told as a quotient: two numbers. -/
def RTold (lo n : Nat) (x y : Int) (w : World) (e : Ending) (w' : World) : Prop :=
  ∃ n1 a1 k1 c1 n2 a2 k2 c2, e = .returned (.agg #[.bool n1, .slice a1 k1 c1, .bool n2, .slice a2 k2 c2]) ∧ Is w' lo (.agg #[.bool n1, .slice a1 k1 c1]) n x ∧ Is w' lo (.agg #[.bool n2, .slice a2 k2 c2]) n y ∧ Below w.heap.size w w'

set_option maxHeartbeats 1600000 in
theorem ratOf_any (w : World) (z : Int) (h1 : -9223372036854775808 ≤ z) (h2 : z ≤ 9223372036854775807) :
    Calls Tryz.prog 43 #[.int .i64 z] w (RTold w.heap.size 2 z 1 w) := by
  go_enter Tryz.func43, Tryz.ntmps43
  go_wp2_with fail
  refine (of_num _ z h1 h2).mono ?_
  rintro e w1 ⟨n1, a1, k1, c1, rfl, I1, hb1⟩
  have bx1 := (Box4.new w (.bool false) (.slice none 0 0) (.bool false) (.slice none 0 0) w.heap.size rfl).keep hb1
  have hW1 : Below w.heap.size w w1 := (by repeat (first | exact Below.refl _ _ | refine Below.alloc ?_ ?_ _ | refine Below.setCell ?_ ?_ _ | refine Below.drew ?_ | refine below_drewN ?_ _ | (· simp) | omega | (· simp; omega) | exact Below.size (by assumption) | assumption | refine below_call ?_ (by assumption) ?_))
  have hz1 := hb1.size
  simp only [asize] at hz1
  clear hb1
  go_wp2_with fail
  refine (of_num _ 1 (by omega) (by omega)).mono ?_
  rintro e w2 ⟨n2, a2, k2, c2, rfl, I2, hb2⟩
  have bx2 := bx1.keep hb2
  have hW2 := below_call hW1 hb2 hW1.size
  have J1 := hid (I1.below hb2)
  have J2 := hid I2
  have hz2 := hb2.size
  obtain ⟨x0, x1, x2, x3⟩ := bx2.c
  have xf := bx2.f
  clear hb2 bx1 bx2 I1 I2
  go_wp2
  refine bodyPost_ret (v := .agg #[.bool n1, .slice a1 k1 c1, .bool n2, .slice a2 k2 c2]) ?_ rfl ⟨n1, a1, k1, c1, n2, a2, k2, c2, rfl, ?_, ?_, (by repeat (first | exact Below.refl _ _ | refine Below.alloc ?_ ?_ _ | refine Below.setCell ?_ ?_ _ | refine Below.drew ?_ | refine below_drewN ?_ _ | (· simp) | omega | (· simp; omega) | exact Below.size (by assumption) | assumption | refine below_call ?_ (by assumption) ?_))⟩
  · simp [results, Tryz.results43, go_sem, x0, x1, x2, x3]
  · exact ((((J1.out.setCell (by simp) _).setCell (by simp) _).setCell (by simp) _).setCell (by simp) _).mono (by simp) (Nat.le_refl _)
  · exact ((((J2.out.setCell (by show w.heap.size < _; omega) _).setCell (by show w.heap.size < _; omega) _).setCell (by show w.heap.size < _; omega) _).setCell (by show w.heap.size < _; omega) _).mono (by omega) (Nat.le_refl _)

end Go.Proofs.YtogdchddmjokmaaGreatDoor

namespace Go.Proofs.YtogdchddmjokmaaGreatDoor
open Go.RowKit Lm
set_option linter.unusedSimpArgs false
set_option linter.unusedVariables false
set_option maxRecDepth 100000

theorem Box4.other {w : World} {b : Nat} {p q r s : Value} (h : Box4 w b p q r s) {a : Addr} (ha : b ≠ a.block) (u : Value) : Box4 (w.setCell a u) b p q r s := (heap_setCell_other w a b u ha).trans h
theorem Box4.alloc {w : World} {b : Nat} {p q r s : Value} (h : Box4 w b p q r s) (o : Obj) : Box4 (w.alloc o) b p q r s := (Below.heap_alloc w o b h.lt).trans h

/-- What both are divided by: what divides both, with the sign of the second. -/
def dv (x y : Int) : Int := if y < 0 then -((Nat.gcd x.natAbs y.natAbs : Nat) : Int) else ((Nat.gcd x.natAbs y.natAbs : Nat) : Int)
theorem dv_ne (x : Int) {y : Int} (h : y ≠ 0) : dv x y ≠ 0 := by
  have : 0 < Nat.gcd x.natAbs y.natAbs := Nat.gcd_pos_of_pos_right _ (by omega)
  unfold dv
  split <;> omega

set_option maxHeartbeats 3200000 in
theorem least_any (w : World) (u v : Value) (n m : Nat) (x y : Int) (hx : Arg w u n x) (hy : Arg w v m y) (hy0 : y ≠ 0) (hn : n ≤ 100000) (hm : m ≤ 100000) :
    Calls Tryz.prog 26 #[u, v] w (RTold w.heap.size (n + m) (x.tdiv (dv x y)) (y.tdiv (dv x y)) w) := by
  have HX := hid hx
  have HY := hid hy
  have HD0 := hid (dv_ne x hy0)
  obtain ⟨n1, s1, l1, rfl, -⟩ := hx
  obtain ⟨n2, s2, l2, rfl, -⟩ := hy
  go_enter Tryz.func26, Tryz.ntmps26
  go_wp2_with fail
  have hW0 : Below w.heap.size w (((w.alloc (.cells #[.bool n1, s1] 24)).alloc (.cells #[.bool n2, s2] 24)).alloc (.cells #[.bool false, .slice none 0 0, .bool false, .slice none 0 0] 26)) := (by repeat (first | exact Below.refl _ _ | refine Below.alloc ?_ ?_ _ | refine Below.setCell ?_ ?_ _ | refine Below.drew ?_ | refine below_drewN ?_ _ | (· simp) | omega | (· simp; omega) | exact Below.size (by assumption) | assumption | refine below_call ?_ (by assumption) ?_))
  have bP : Box (((w.alloc (.cells #[.bool n1, s1] 24)).alloc (.cells #[.bool n2, s2] 24)).alloc (.cells #[.bool false, .slice none 0 0, .bool false, .slice none 0 0] 26)) w.heap.size (.bool n1) s1 := ((Box.new w _ _ _ rfl).alloc _).alloc _
  have bQ : Box (((w.alloc (.cells #[.bool n1, s1] 24)).alloc (.cells #[.bool n2, s2] 24)).alloc (.cells #[.bool false, .slice none 0 0, .bool false, .slice none 0 0] 26)) (w.heap.size + 1) (.bool n2) s2 := (Box.new _ _ _ _ (by simp)).alloc _
  have bR : Box4 (((w.alloc (.cells #[.bool n1, s1] 24)).alloc (.cells #[.bool n2, s2] 24)).alloc (.cells #[.bool false, .slice none 0 0, .bool false, .slice none 0 0] 26)) (w.heap.size + 1 + 1) (.bool false) (.slice none 0 0) (.bool false) (.slice none 0 0) := Box4.new _ _ _ _ _ _ (by simp)
  have hs0 : (((w.alloc (.cells #[.bool n1, s1] 24)).alloc (.cells #[.bool n2, s2] 24)).alloc (.cells #[.bool false, .slice none 0 0, .bool false, .slice none 0 0] 26)).heap.size = w.heap.size + 3 := by simp
  generalize ((w.alloc (.cells #[.bool n1, s1] 24)).alloc (.cells #[.bool n2, s2] 24)).alloc (.cells #[.bool false, .slice none 0 0, .bool false, .slice none 0 0] 26) = W0 at *
  refine (gcd_num _ _ _ n m x y (HX.out.below hW0) (HY.out.below hW0) (by omega) (by omega)).mono ?_
  rintro e w1 ⟨ng, ag, kg, cg, rfl, I1, hb1⟩
  have hW1 := below_call hW0 hb1 hW0.size
  have hz1 := hb1.size
  replace bP := bP.keep hb1
  replace bQ := bQ.keep hb1
  replace bR := bR.keep hb1
  have p0 := bP.c0
  have p1 := bP.c1
  have q0 := bQ.c0
  have q1 := bQ.c1
  have lP := bP.lt
  have lQ := bQ.lt
  have I1' := hid (I1.alloc (.cells #[.bool ng, .slice ag kg cg] 24))
  have bD := Box.new w1 (.bool ng) (.slice ag kg cg) w1.heap.size rfl
  replace bP := bP.alloc (.cells #[.bool ng, .slice ag kg cg] 24)
  replace bQ := bQ.alloc (.cells #[.bool ng, .slice ag kg cg] 24)
  replace bR := bR.alloc (.cells #[.bool ng, .slice ag kg cg] 24)
  have hWa : Below w.heap.size w (w1.alloc (.cells #[.bool ng, .slice ag kg cg] 24)) := hW1.alloc hW1.size _
  clear hb1 I1 hW0 hW1
  go_wp2_with fail
  clear p0 p1 q0 q1
  have hg5 : w.heap.size + 3 ≤ w1.heap.size := by omega
  generalize hga : w1.alloc (.cells #[.bool ng, .slice ag kg cg] 24) = W1 at *
  refine (sign_any _ _ m y (HY.out.below hWa)).mono ?_
  rintro e w2 ⟨rfl, hb2⟩
  replace bP := bP.keep hb2
  replace bQ := bQ.keep hb2
  replace bR := bR.keep hb2
  replace bD := bD.keep hb2
  have hWD := below_call hWa hb2 hWa.size
  have ID0 := hid (I1'.out.below hb2)
  have hzz := hb2.size
  have hz0 : w1.heap.size < w2.heap.size := by
    have : W1.heap.size = w1.heap.size + 1 := by rw [← hga]; simp
    omega
  clear hb2 I1' hWa hga hzz
  by_cases hyn : y < 0
  · have hcm : cmpI y 0 = -1 := cmpI_lt hyn
    have HDV : Hid (dv x y = -((Nat.gcd x.natAbs y.natAbs : Nat) : Int)) := hid (by unfold dv; rw [if_pos hyn])
    rw [hcm]
    clear hcm hyn
    have d0 := bD.c0
    have d1 := bD.c1
    go_wp2_with fail
    refine (neg_num _ _ (n + m + 2) _ ID0.out.arg (by omega)).mono ?_
    rintro e w5 ⟨nd, ad, kd, cd, rfl, In, hb5⟩
    have hW5 := below_call hWD hb5 hWD.size
    have hz5 := hb5.size
    clear d0 d1
    replace bP := bP.keep hb5
    replace bQ := bQ.keep hb5
    replace bR := bR.keep hb5
    replace bD := bD.keep hb5
    have d0 := bD.c0
    have d1 := bD.c1
    have df := bD.f
    have p0 := bP.c0
    have p1 := bP.c1
    have lP := bP.lt
    have lD5 := bD.lt
    have U1 : Box ((w5.setCell ⟨w1.heap.size, 0, none⟩ (.bool nd)).setCell ⟨w1.heap.size, 1, none⟩ (.slice ad kd cd)) w1.heap.size (.bool nd) (.slice ad kd cd) := (bD.set0 _).set1 _
    have U2 : Box ((w5.setCell ⟨w1.heap.size, 0, none⟩ (.bool nd)).setCell ⟨w1.heap.size, 1, none⟩ (.slice ad kd cd)) w.heap.size (.bool n1) s1 := (bP.other (by show w.heap.size ≠ w1.heap.size; omega) _).other (by show w.heap.size ≠ w1.heap.size; omega) _
    have U3 : Box ((w5.setCell ⟨w1.heap.size, 0, none⟩ (.bool nd)).setCell ⟨w1.heap.size, 1, none⟩ (.slice ad kd cd)) (w.heap.size + 1) (.bool n2) s2 := (bQ.other (by show w.heap.size + 1 ≠ w1.heap.size; omega) _).other (by show w.heap.size + 1 ≠ w1.heap.size; omega) _
    have U4 : Box4 ((w5.setCell ⟨w1.heap.size, 0, none⟩ (.bool nd)).setCell ⟨w1.heap.size, 1, none⟩ (.slice ad kd cd)) (w.heap.size + 1 + 1) (.bool false) (.slice none 0 0) (.bool false) (.slice none 0 0) := (bR.other (by show w.heap.size + 1 + 1 ≠ w1.heap.size; omega) _).other (by show w.heap.size + 1 + 1 ≠ w1.heap.size; omega) _
    have U5 : Is ((w5.setCell ⟨w1.heap.size, 0, none⟩ (.bool nd)).setCell ⟨w1.heap.size, 1, none⟩ (.slice ad kd cd)) w2.heap.size (.agg #[.bool nd, .slice ad kd cd]) (n + m + 2) (dv x y) := by
      rw [HDV.out]
      exact (In.setCell (by show w1.heap.size < _; omega) _).setCell (by show w1.heap.size < _; omega) _
    have U6 : Below w.heap.size w ((w5.setCell ⟨w1.heap.size, 0, none⟩ (.bool nd)).setCell ⟨w1.heap.size, 1, none⟩ (.slice ad kd cd)) := (hW5.setCell (by show w.heap.size ≤ w1.heap.size; omega) _).setCell (by show w.heap.size ≤ w1.heap.size; omega) _
    have U7 : w5.heap.size = ((w5.setCell ⟨w1.heap.size, 0, none⟩ (.bool nd)).setCell ⟨w1.heap.size, 1, none⟩ (.slice ad kd cd)).heap.size := by simp [World.setCell]
    have ID := hid U5
    clear hb5 In hWD hW5 ID0 HDV bP bQ bR bD U5
    go_wp2_with fail
    clear d0 d1 df p0 p1 lP lD5
    generalize (w5.setCell ⟨w1.heap.size, 0, none⟩ (.bool nd)).setCell ⟨w1.heap.size, 1, none⟩ (.slice ad kd cd) = W5 at *
    have bP := U2
    have bQ := U3
    have bR := U4
    have bD := U1
    have hWD := U6
    clear U1 U2 U3 U4 U6
    refine (div_any _ _ _ n (n + m + 2) x (dv x y) (HX.out.below hWD) ID.out.arg HD0.out (by omega) (by omega)).mono ?_
    rintro e w3 ⟨nq, aq, kq, cq, nr, ar, kr, cr, rfl, Iq, -, hb3⟩
    have hW3 := below_call hWD hb3 hWD.size
    have hz3 := hb3.size
    replace bP := bP.keep hb3
    replace bQ := bQ.keep hb3
    replace bR := bR.keep hb3
    replace bD := bD.keep hb3
    have ID3 := ID.out.below hb3
    have V1 : Box ((w3.setCell ⟨w.heap.size, 0, none⟩ (.bool nq)).setCell ⟨w.heap.size, 1, none⟩ (.slice aq kq cq)) w.heap.size (.bool nq) (.slice aq kq cq) := (bP.set0 _).set1 _
    have V2 : Box ((w3.setCell ⟨w.heap.size, 0, none⟩ (.bool nq)).setCell ⟨w.heap.size, 1, none⟩ (.slice aq kq cq)) (w.heap.size + 1) (.bool n2) s2 := (bQ.other (by simp) _).other (by simp) _
    have V3 : Box4 ((w3.setCell ⟨w.heap.size, 0, none⟩ (.bool nq)).setCell ⟨w.heap.size, 1, none⟩ (.slice aq kq cq)) (w.heap.size + 1 + 1) (.bool false) (.slice none 0 0) (.bool false) (.slice none 0 0) := (bR.other (by show w.heap.size + 1 + 1 ≠ w.heap.size; omega) _).other (by show w.heap.size + 1 + 1 ≠ w.heap.size; omega) _
    have V4 : Box ((w3.setCell ⟨w.heap.size, 0, none⟩ (.bool nq)).setCell ⟨w.heap.size, 1, none⟩ (.slice aq kq cq)) w1.heap.size (.bool nd) (.slice ad kd cd) := (bD.other (by simp; omega) _).other (by simp; omega) _
    have V5 : Is ((w3.setCell ⟨w.heap.size, 0, none⟩ (.bool nq)).setCell ⟨w.heap.size, 1, none⟩ (.slice aq kq cq)) _ (.agg #[.bool nq, .slice aq kq cq]) n (x.tdiv (dv x y)) := (Iq.setCell (by simp; omega) _).setCell (by simp; omega) _
    have V6 : Is ((w3.setCell ⟨w.heap.size, 0, none⟩ (.bool nq)).setCell ⟨w.heap.size, 1, none⟩ (.slice aq kq cq)) _ (.agg #[.bool nd, .slice ad kd cd]) (n + m + 2) (dv x y) := (ID3.setCell (by simp; omega) _).setCell (by simp; omega) _
    have V7 : Below w.heap.size w ((w3.setCell ⟨w.heap.size, 0, none⟩ (.bool nq)).setCell ⟨w.heap.size, 1, none⟩ (.slice aq kq cq)) := (hW3.setCell (by simp) _).setCell (by simp) _
    have V8 : w3.heap.size = ((w3.setCell ⟨w.heap.size, 0, none⟩ (.bool nq)).setCell ⟨w.heap.size, 1, none⟩ (.slice aq kq cq)).heap.size := by simp [World.setCell]
    have p0 := bP.c0
    have p1 := bP.c1
    have pf := bP.f
    have q0 := bQ.c0
    have q1 := bQ.c1
    have d0 := bD.c0
    have d1 := bD.c1
    have lD := bD.lt
    have HV5 := hid V5
    have HV6 := hid V6
    clear hb3 Iq ID3 bP bQ bR bD ID V5 V6
    go_wp2_with fail
    clear p0 p1 pf q0 q1 d0 d1
    generalize (w3.setCell ⟨w.heap.size, 0, none⟩ (.bool nq)).setCell ⟨w.heap.size, 1, none⟩ (.slice aq kq cq) = W3 at *
    refine (div_any _ _ _ m (n + m + 2) y (dv x y) (HY.out.below V7) HV6.out.arg HD0.out (by omega) (by omega)).mono ?_
    rintro e w4 ⟨nu, au, ku, cu, nv, av, kv, cv, rfl, Iu, -, hb4⟩
    have hW4 := below_call V7 hb4 V7.size
    have hz4 := hb4.size
    have bP := V1.keep hb4
    have bQ := V2.keep hb4
    have bR := V3.keep hb4
    have IQ := hid (HV5.out.below hb4)
    have IU := hid Iu
    have p0 := bP.c0
    have p1 := bP.c1
    have q0 := bQ.c0
    have q1 := bQ.c1
    have qf := bQ.f
    obtain ⟨r0, r1, r2, r3⟩ := bR.c
    have rf := bR.f
    clear hb4 V1 V2 V3 V4 Iu HV5 HV6 bP bQ bR
    go_wp2
    refine bodyPost_ret (v := .agg #[.bool nq, .slice aq kq cq, .bool nu, .slice au ku cu]) ?_ rfl ⟨nq, aq, kq, cq, nu, au, ku, cu, rfl, ?_, ?_, ((((((hW4.setCell (by show w.heap.size ≤ w.heap.size + 1; omega) _).setCell (by show w.heap.size ≤ w.heap.size + 1; omega) _).setCell (by show w.heap.size ≤ w.heap.size + 1 + 1; omega) _).setCell (by show w.heap.size ≤ w.heap.size + 1 + 1; omega) _).setCell (by show w.heap.size ≤ w.heap.size + 1 + 1; omega) _).setCell (by show w.heap.size ≤ w.heap.size + 1 + 1; omega) _)⟩
    · simp [results, Tryz.results26, go_sem, r0, r1, r2, r3]
    · exact ((((((IQ.out.setCell (by show w.heap.size + 1 < _; omega) _).setCell (by show w.heap.size + 1 < _; omega) _).setCell (by show w.heap.size + 1 + 1 < _; omega) _).setCell (by show w.heap.size + 1 + 1 < _; omega) _).setCell (by show w.heap.size + 1 + 1 < _; omega) _).setCell (by show w.heap.size + 1 + 1 < _; omega) _).mono (by omega) (by omega)
    · exact ((((((IU.out.setCell (by show w.heap.size + 1 < _; omega) _).setCell (by show w.heap.size + 1 < _; omega) _).setCell (by show w.heap.size + 1 + 1 < _; omega) _).setCell (by show w.heap.size + 1 + 1 < _; omega) _).setCell (by show w.heap.size + 1 + 1 < _; omega) _).setCell (by show w.heap.size + 1 + 1 < _; omega) _).mono (by omega) (by omega)
  · have HDV : Hid (dv x y = ((Nat.gcd x.natAbs y.natAbs : Nat) : Int)) := hid (by unfold dv; rw [if_neg hyn])
    have hcm : cmpI y 0 = 1 := cmpI_gt (by omega)
    rw [hcm]
    clear hcm hyn
    have ID : Hid (Is w2 W0.heap.size (.agg #[.bool ng, .slice ag kg cg]) (n + m + 2) (dv x y)) := hid (by rw [HDV.out]; exact ID0.out)
    clear ID0 HDV
    have p0 := bP.c0
    have p1 := bP.c1
    have d0 := bD.c0
    have d1 := bD.c1
    go_wp2_with fail
    refine (div_any _ _ _ n (n + m + 2) x (dv x y) (HX.out.below hWD) ID.out.arg HD0.out (by omega) (by omega)).mono ?_
    rintro e w3 ⟨nq, aq, kq, cq, nr, ar, kr, cr, rfl, Iq, -, hb3⟩
    have hW3 := below_call hWD hb3 hWD.size
    have hz3 := hb3.size
    clear p0 p1 d0 d1
    replace bP := bP.keep hb3
    replace bQ := bQ.keep hb3
    replace bR := bR.keep hb3
    replace bD := bD.keep hb3
    have ID3 := ID.out.below hb3
    have V1 : Box ((w3.setCell ⟨w.heap.size, 0, none⟩ (.bool nq)).setCell ⟨w.heap.size, 1, none⟩ (.slice aq kq cq)) w.heap.size (.bool nq) (.slice aq kq cq) := (bP.set0 _).set1 _
    have V2 : Box ((w3.setCell ⟨w.heap.size, 0, none⟩ (.bool nq)).setCell ⟨w.heap.size, 1, none⟩ (.slice aq kq cq)) (w.heap.size + 1) (.bool n2) s2 := (bQ.other (by simp) _).other (by simp) _
    have V3 : Box4 ((w3.setCell ⟨w.heap.size, 0, none⟩ (.bool nq)).setCell ⟨w.heap.size, 1, none⟩ (.slice aq kq cq)) (w.heap.size + 1 + 1) (.bool false) (.slice none 0 0) (.bool false) (.slice none 0 0) := (bR.other (by show w.heap.size + 1 + 1 ≠ w.heap.size; omega) _).other (by show w.heap.size + 1 + 1 ≠ w.heap.size; omega) _
    have V4 : Box ((w3.setCell ⟨w.heap.size, 0, none⟩ (.bool nq)).setCell ⟨w.heap.size, 1, none⟩ (.slice aq kq cq)) w1.heap.size (.bool ng) (.slice ag kg cg) := (bD.other (by simp; omega) _).other (by simp; omega) _
    have V5 : Is ((w3.setCell ⟨w.heap.size, 0, none⟩ (.bool nq)).setCell ⟨w.heap.size, 1, none⟩ (.slice aq kq cq)) _ (.agg #[.bool nq, .slice aq kq cq]) n (x.tdiv (dv x y)) := (Iq.setCell (by simp; omega) _).setCell (by simp; omega) _
    have V6 : Is ((w3.setCell ⟨w.heap.size, 0, none⟩ (.bool nq)).setCell ⟨w.heap.size, 1, none⟩ (.slice aq kq cq)) _ (.agg #[.bool ng, .slice ag kg cg]) (n + m + 2) (dv x y) := (ID3.setCell (by simp; omega) _).setCell (by simp; omega) _
    have V7 : Below w.heap.size w ((w3.setCell ⟨w.heap.size, 0, none⟩ (.bool nq)).setCell ⟨w.heap.size, 1, none⟩ (.slice aq kq cq)) := (hW3.setCell (by simp) _).setCell (by simp) _
    have V8 : w3.heap.size = ((w3.setCell ⟨w.heap.size, 0, none⟩ (.bool nq)).setCell ⟨w.heap.size, 1, none⟩ (.slice aq kq cq)).heap.size := by simp [World.setCell]
    have p0 := bP.c0
    have p1 := bP.c1
    have pf := bP.f
    have q0 := bQ.c0
    have q1 := bQ.c1
    have d0 := bD.c0
    have d1 := bD.c1
    have lD := bD.lt
    have HV5 := hid V5
    have HV6 := hid V6
    clear hb3 Iq ID3 bP bQ bR bD ID V5 V6
    go_wp2_with fail
    clear p0 p1 pf q0 q1 d0 d1
    generalize (w3.setCell ⟨w.heap.size, 0, none⟩ (.bool nq)).setCell ⟨w.heap.size, 1, none⟩ (.slice aq kq cq) = W3 at *
    refine (div_any _ _ _ m (n + m + 2) y (dv x y) (HY.out.below V7) HV6.out.arg HD0.out (by omega) (by omega)).mono ?_
    rintro e w4 ⟨nu, au, ku, cu, nv, av, kv, cv, rfl, Iu, -, hb4⟩
    have hW4 := below_call V7 hb4 V7.size
    have hz4 := hb4.size
    have bP := V1.keep hb4
    have bQ := V2.keep hb4
    have bR := V3.keep hb4
    have IQ := hid (HV5.out.below hb4)
    have IU := hid Iu
    have p0 := bP.c0
    have p1 := bP.c1
    have q0 := bQ.c0
    have q1 := bQ.c1
    have qf := bQ.f
    obtain ⟨r0, r1, r2, r3⟩ := bR.c
    have rf := bR.f
    clear hb4 V1 V2 V3 V4 Iu HV5 HV6 bP bQ bR
    go_wp2
    refine bodyPost_ret (v := .agg #[.bool nq, .slice aq kq cq, .bool nu, .slice au ku cu]) ?_ rfl ⟨nq, aq, kq, cq, nu, au, ku, cu, rfl, ?_, ?_, ((((((hW4.setCell (by show w.heap.size ≤ w.heap.size + 1; omega) _).setCell (by show w.heap.size ≤ w.heap.size + 1; omega) _).setCell (by show w.heap.size ≤ w.heap.size + 1 + 1; omega) _).setCell (by show w.heap.size ≤ w.heap.size + 1 + 1; omega) _).setCell (by show w.heap.size ≤ w.heap.size + 1 + 1; omega) _).setCell (by show w.heap.size ≤ w.heap.size + 1 + 1; omega) _)⟩
    · simp [results, Tryz.results26, go_sem, r0, r1, r2, r3]
    · exact ((((((IQ.out.setCell (by show w.heap.size + 1 < _; omega) _).setCell (by show w.heap.size + 1 < _; omega) _).setCell (by show w.heap.size + 1 + 1 < _; omega) _).setCell (by show w.heap.size + 1 + 1 < _; omega) _).setCell (by show w.heap.size + 1 + 1 < _; omega) _).setCell (by show w.heap.size + 1 + 1 < _; omega) _).mono (by omega) (by omega)
    · exact ((((((IU.out.setCell (by show w.heap.size + 1 < _; omega) _).setCell (by show w.heap.size + 1 < _; omega) _).setCell (by show w.heap.size + 1 + 1 < _; omega) _).setCell (by show w.heap.size + 1 + 1 < _; omega) _).setCell (by show w.heap.size + 1 + 1 < _; omega) _).setCell (by show w.heap.size + 1 + 1 < _; omega) _).mono (by omega) (by omega)

end Go.Proofs.YtogdchddmjokmaaGreatDoor

namespace Go.Proofs.YtogdchddmjokmaaGreatDoor
open Go.RowKit Lm
set_option linter.unusedSimpArgs false
set_option linter.unusedVariables false
set_option maxRecDepth 100000

theorem dv_abs (x y : Int) : (dv x y).natAbs = Nat.gcd x.natAbs y.natAbs := by unfold dv; split <;> simp

theorem dv_dvd_left (x y : Int) : dv x y ∣ x := by
  rw [← Int.natAbs_dvd_natAbs, dv_abs]; exact Nat.gcd_dvd_left _ _
theorem dv_dvd_right (x y : Int) : dv x y ∣ y := by
  rw [← Int.natAbs_dvd_natAbs, dv_abs]; exact Nat.gcd_dvd_right _ _

theorem least_num (x y : Int) (h : y ≠ 0) : (Rat.divInt x y).num = x.tdiv (dv x y) := by
  have hd : dv x y ≠ 0 := by
    have : 0 < Nat.gcd x.natAbs y.natAbs := Nat.gcd_pos_of_pos_right _ (by omega)
    unfold dv; split <;> omega
  have hg : ((Int.gcd y x : Nat) : Int) = if y < 0 then - dv x y else dv x y := by
    unfold dv Int.gcd; rw [Nat.gcd_comm]; split <;> simp
  have ha := dv_dvd_left x y
  rw [Rat.num_divInt, hg]
  generalize dv x y = d at *
  obtain ⟨a, rfl⟩ := ha
  rw [Int.mul_tdiv_cancel_left _ hd]
  by_cases hy : y < 0
  · rw [if_pos hy, Int.sign_eq_neg_one_of_neg hy, show (-1 : Int) * (d * a) = (-d) * a by grind]
    exact Int.mul_ediv_cancel_left _ (by omega)
  · rw [if_neg hy, Int.sign_eq_one_of_pos (by omega), Int.one_mul]
    exact Int.mul_ediv_cancel_left _ hd
theorem least_den (x y : Int) (h : y ≠ 0) : ((Rat.divInt x y).den : Int) = y.tdiv (dv x y) := by
  have hd : dv x y ≠ 0 := by
    have : 0 < Nat.gcd x.natAbs y.natAbs := Nat.gcd_pos_of_pos_right _ (by omega)
    unfold dv; split <;> omega
  obtain ⟨a, ha⟩ := dv_dvd_right x y
  rw [Rat.den_divInt, if_neg h]
  have e : y.tdiv (dv x y) = a := by
    conv => lhs; lhs; rw [ha]
    exact Int.mul_tdiv_cancel_left _ hd
  rw [e]
  have hg : Int.gcd y x = (dv x y).natAbs := by
    rw [dv_abs]; unfold Int.gcd; rw [Nat.gcd_comm]
  rw [hg]
  have h3 : y.natAbs / (dv x y).natAbs = a.natAbs := by
    conv => lhs; lhs; rw [ha]
    rw [Int.natAbs_mul]
    exact Nat.mul_div_cancel_left _ (by omega)
  rw [h3]
  have hp : 0 ≤ a := by
    by_cases hy : y < 0
    · have h4 : dv x y < 0 := by
        have : 0 < Nat.gcd x.natAbs y.natAbs := Nat.gcd_pos_of_pos_right _ (by omega)
        unfold dv; rw [if_pos hy]; omega
      by_cases hn : 0 ≤ a
      · exact hn
      · have := Int.mul_pos_of_neg_of_neg h4 (show a < 0 by omega)
        omega
    · have h4 : 0 < dv x y := by
        have : 0 < Nat.gcd x.natAbs y.natAbs := Nat.gcd_pos_of_pos_right _ (by omega)
        unfold dv; rw [if_neg hy]; omega
      by_cases hn : 0 ≤ a
      · exact hn
      · have := Int.mul_neg_of_pos_of_neg h4 (show a < 0 by omega)
        omega
  omega

/-- Which of two is greater. -/
def cmpR (r s : Rat) : Int := if r < s then -1 else if s < r then 1 else 0
theorem cmp_rat (r s : Rat) : cmpI (r.num * s.den) (s.num * r.den) = cmpR r s := by
  unfold cmpI cmpR
  simp only [Rat.lt_iff]

theorem add_rat (r s : Rat) : Rat.divInt (r.num * s.den + s.num * r.den) (r.den * s.den) = r + s := by
  rw [Rat.add_def', ← Rat.divInt_ofNat]; simp
theorem mul_rat (r s : Rat) : Rat.divInt (r.num * s.num) (r.den * s.den) = r * s := by
  rw [Rat.mul_def', ← Rat.divInt_ofNat]; simp
theorem sub_rat (r s : Rat) : Rat.divInt (r.num * s.den + (- s.num) * r.den) (r.den * s.den) = r - s := by
  rw [Rat.sub_def', ← Rat.divInt_ofNat]; simp [Int.sub_eq_add_neg, Int.neg_mul]
theorem div_rat (r s : Rat) : Rat.divInt (r.num * s.den) (r.den * s.num) = r / s := by
  rw [Rat.div_def, Rat.inv_def]
  conv => rhs; lhs; rw [← Rat.num_divInt_den r]
  rw [Rat.divInt_mul_divInt]
theorem floor_rat (r : Rat) : r.floor = if r.num.tmod r.den < 0 then r.num.tdiv r.den - 1 else r.num.tdiv r.den := by
  rw [Rat.floor_def]
  have hd : (0 : Int) < r.den := by have := r.den_pos; omega
  generalize r.num = a at *
  generalize (r.den : Int) = b at *
  have h1 := Int.tmod_add_mul_tdiv a b
  have h2 := Int.emod_add_mul_ediv a b
  have h3 := Int.emod_nonneg a (show b ≠ 0 by omega)
  have h4 := Int.emod_lt_of_pos a hd
  have h5 := Int.tmod_lt_of_pos a hd
  split
  · rename_i h
    have h6 : -b < a.tmod b := Int.lt_tmod_of_pos a hd
    have : a / b = a.tdiv b - 1 := by
      rw [Int.ediv_eq_iff_of_pos hd]
      constructor <;> grind
    exact this
  · rw [Int.ediv_eq_iff_of_pos hd]
    constructor <;> grind

/-- Is it in the least form, with a denominator? -/
def formB (n1 : Bool) (l1 : List Nat) (n2 : Bool) (l2 : List Nat) : Prop := mayB n1 l1 = true ∧ mayB n2 l2 = true ∧ 0 < sgn n2 (val l2) ∧ Nat.gcd (val l1) (val l2) = 1
instance (n1 : Bool) (l1 : List Nat) (n2 : Bool) (l2 : List Nat) : Decidable (formB n1 l1 n2 l2) := by unfold formB; exact inferInstance
/-- What a quotient counts as. -/
def ratMean (n1 : Bool) (l1 : List Nat) (n2 : Bool) (l2 : List Nat) : Rat := if formB n1 l1 n2 l2 then Rat.divInt (sgn n1 (val l1)) (sgn n2 (val l2)) else 0
theorem divInt_parts {x y : Int} (hy : 0 < y) (hg : Nat.gcd x.natAbs y.natAbs = 1) : (Rat.divInt x y).num = x ∧ ((Rat.divInt x y).den : Int) = y := by
  have hd : dv x y = 1 := by unfold dv; rw [if_neg (by omega), hg]; rfl
  rw [least_num x y (by omega), least_den x y (by omega), hd]
  simp
theorem ratMean_parts {n1 : Bool} {l1 : List Nat} {n2 : Bool} {l2 : List Nat} (h : formB n1 l1 n2 l2) : (ratMean n1 l1 n2 l2).num = sgn n1 (val l1) ∧ ((ratMean n1 l1 n2 l2).den : Int) = sgn n2 (val l2) := by
  unfold ratMean
  rw [if_pos h]
  exact divInt_parts h.2.2.1 (by rw [sgn_abs, sgn_abs]; exact h.2.2.2)
theorem ratMean_not {n1 : Bool} {l1 : List Nat} {n2 : Bool} {l2 : List Nat} (h : ¬ formB n1 l1 n2 l2) : ratMean n1 l1 n2 l2 = 0 := by
  unfold ratMean
  rw [if_neg h]

/-- A quotient that is handed in. -/
def RArg (w : World) (v : Value) (n : Nat) (r : Rat) : Prop := ∃ n1 s1 l1 n2 s2 l2, v = .agg #[.bool n1, s1, .bool n2, s2] ∧ Sl w s1 l1 ∧ Sl w s2 l2 ∧ l1.length ≤ n ∧ l2.length ≤ n ∧ r = ratMean n1 l1 n2 l2
/-- Two numbers beside each other. -/
def PArg (w : World) (v : Value) (n : Nat) (x y : Int) : Prop := ∃ n1 s1 n2 s2, v = .agg #[.bool n1, s1, .bool n2, s2] ∧ Arg w (.agg #[.bool n1, s1]) n x ∧ Arg w (.agg #[.bool n2, s2]) n y
/-- A quotient that is told. -/
def RIs (w : World) (lo : Nat) (v : Value) (n : Nat) (r : Rat) : Prop := ∃ n1 a1 k1 c1 n2 a2 k2 c2, v = .agg #[.bool n1, .slice a1 k1 c1, .bool n2, .slice a2 k2 c2] ∧ Is w lo (.agg #[.bool n1, .slice a1 k1 c1]) n r.num ∧ Is w lo (.agg #[.bool n2, .slice a2 k2 c2]) n (r.den : Int)

theorem Arg.mono {w : World} {v : Value} {n m : Nat} {x : Int} (h : Arg w v n x) (hm : n ≤ m) : Arg w v m x := by
  obtain ⟨neg, sv, l, e, hs, hl, hz⟩ := h
  exact ⟨neg, sv, l, e, hs, by omega, hz⟩
theorem RArg.below {w w' : World} {v : Value} {n : Nat} {r : Rat} (h : RArg w v n r) (hb : Below w.heap.size w w') : RArg w' v n r := by
  obtain ⟨n1, s1, l1, n2, s2, l2, e, ⟨a1, c1, e1, h1⟩, ⟨a2, c2, e2, h2⟩, hr⟩ := h
  exact ⟨n1, s1, l1, n2, s2, l2, e, ⟨a1, c1, e1, h1.below hb⟩, ⟨a2, c2, e2, h2.below hb⟩, hr⟩
theorem PArg.below {w w' : World} {v : Value} {n : Nat} {x y : Int} (h : PArg w v n x y) (hb : Below w.heap.size w w') : PArg w' v n x y := by
  obtain ⟨n1, s1, n2, s2, e, h1, h2⟩ := h
  exact ⟨n1, s1, n2, s2, e, h1.below hb, h2.below hb⟩
theorem RIs.below {w w' : World} {lo : Nat} {v : Value} {n : Nat} {r : Rat} (h : RIs w lo v n r) (hb : Below w.heap.size w w') : RIs w' lo v n r := by
  obtain ⟨n1, a1, k1, c1, n2, a2, k2, c2, e, h1, h2⟩ := h
  exact ⟨n1, a1, k1, c1, n2, a2, k2, c2, e, h1.below hb, h2.below hb⟩
theorem RIs.mono {w : World} {lo lo' : Nat} {v : Value} {n n' : Nat} {r : Rat} (h : RIs w lo v n r) (hlo : lo' ≤ lo) (hn : n ≤ n') : RIs w lo' v n' r := by
  obtain ⟨n1, a1, k1, c1, n2, a2, k2, c2, e, h1, h2⟩ := h
  exact ⟨n1, a1, k1, c1, n2, a2, k2, c2, e, h1.mono hlo hn, h2.mono hlo hn⟩
theorem RIs.setCell {w : World} {lo : Nat} {v : Value} {n : Nat} {r : Rat} (h : RIs w lo v n r) {p : Addr} (hp : p.block < lo) (u : Value) : RIs (w.setCell p u) lo v n r := by
  obtain ⟨n1, a1, k1, c1, n2, a2, k2, c2, e, h1, h2⟩ := h
  exact ⟨n1, a1, k1, c1, n2, a2, k2, c2, e, h1.setCell hp u, h2.setCell hp u⟩
theorem RIs.parg {w : World} {lo : Nat} {v : Value} {n : Nat} {r : Rat} (h : RIs w lo v n r) : PArg w v n r.num (r.den : Int) := by
  obtain ⟨n1, a1, k1, c1, n2, a2, k2, c2, e, h1, h2⟩ := h
  exact ⟨n1, _, n2, _, e, h1.arg, h2.arg⟩
theorem PArg.mono {w : World} {v : Value} {n m : Nat} {x y : Int} (h : PArg w v n x y) (hm : n ≤ m) : PArg w v m x y := by
  obtain ⟨n1, s1, n2, s2, e, h1, h2⟩ := h
  exact ⟨n1, s1, n2, s2, e, h1.mono hm, h2.mono hm⟩
theorem RArg.mono {w : World} {v : Value} {n m : Nat} {r : Rat} (h : RArg w v n r) (hm : n ≤ m) : RArg w v m r := by
  obtain ⟨n1, s1, l1, n2, s2, l2, e, h1, h2, k1, k2, hr⟩ := h
  exact ⟨n1, s1, l1, n2, s2, l2, e, h1, h2, by omega, by omega, hr⟩
theorem RIs.arg {w : World} {lo : Nat} {v : Value} {n : Nat} {r : Rat} (h : RIs w lo v n r) : RArg w v n r := by
  obtain ⟨n1, a1, k1, c1, n2, a2, k2, c2, rfl, ⟨m1, b1, d1, l1, e1, s1, -, g1, y1, z1⟩, ⟨m2, b2, d2, l2, e2, s2, -, g2, y2, z2⟩⟩ := h
  simp only [Value.agg.injEq, Array.mk.injEq, List.cons.injEq, Value.bool.injEq, Value.slice.injEq, and_true] at e1 e2
  obtain ⟨rfl, rfl, rfl, rfl⟩ := e1
  obtain ⟨rfl, rfl, rfl, rfl⟩ := e2
  refine ⟨n1, _, l1, n2, _, l2, rfl, ⟨_, _, rfl, s1⟩, ⟨_, _, rfl, s2⟩, g1, g2, ?_⟩
  have hd := r.den_pos
  have hf : formB n1 l1 n2 l2 := by
    refine ⟨y1, y2, by omega, ?_⟩
    have := r.reduced
    unfold Nat.Coprime at this
    rw [z1, sgn_abs] at this
    have h3 : r.den = val l2 := by
      have := sgn_abs n2 (val l2)
      rw [← z2] at this
      simpa using this
    rwa [h3] at this
  have hp := ratMean_parts hf
  refine Rat.ext (by rw [hp.1, z1]) ?_
  have := hp.2
  omega
theorem ris_of_pair {w w0 : World} {lo n : Nat} {x y : Int} {e : Ending} (hy : y ≠ 0) (h : RTold lo n (x.tdiv (dv x y)) (y.tdiv (dv x y)) w0 e w) : ∃ v, e = .returned v ∧ RIs w lo v n (Rat.divInt x y) ∧ Below w0.heap.size w0 w := by
  obtain ⟨n1, a1, k1, c1, n2, a2, k2, c2, rfl, h1, h2, hb⟩ := h
  refine ⟨_, rfl, ⟨n1, a1, k1, c1, n2, a2, k2, c2, rfl, ?_, ?_⟩, hb⟩
  · rw [least_num x y hy]; exact h1
  · rw [least_den x y hy]; exact h2
/-- A quotient has been told. -/
def RSay (lo n : Nat) (r : Rat) (w : World) (e : Ending) (w' : World) : Prop :=
  ∃ n1 a1 k1 c1 n2 a2 k2 c2, e = .returned (.agg #[.bool n1, .slice a1 k1 c1, .bool n2, .slice a2 k2 c2]) ∧ RIs w' lo (.agg #[.bool n1, .slice a1 k1 c1, .bool n2, .slice a2 k2 c2]) n r ∧ Below w.heap.size w w'
theorem least_say (w : World) (u v : Value) (n m : Nat) (x y : Int) (hx : Arg w u n x) (hy : Arg w v m y) (hy0 : y ≠ 0) (hn : n ≤ 100000) (hm : m ≤ 100000) :
    Calls Tryz.prog 26 #[u, v] w (RSay w.heap.size (n + m) (Rat.divInt x y) w) := by
  refine (least_any w u v n m x y hx hy hy0 hn hm).mono ?_
  rintro e w' ⟨n1, a1, k1, c1, n2, a2, k2, c2, rfl, h1, h2, hb⟩
  refine ⟨n1, a1, k1, c1, n2, a2, k2, c2, rfl, ⟨n1, a1, k1, c1, n2, a2, k2, c2, rfl, ?_, ?_⟩, hb⟩
  · rw [least_num x y hy0]; exact h1
  · rw [least_den x y hy0]; exact h2
theorem ratOf_say (w : World) (z : Int) (h1 : -9223372036854775808 ≤ z) (h2 : z ≤ 9223372036854775807) :
    Calls Tryz.prog 43 #[.int .i64 z] w (RSay w.heap.size 2 (z : Rat) w) := by
  refine (ratOf_any w z h1 h2).mono ?_
  rintro e w' ⟨n1, a1, k1, c1, n2, a2, k2, c2, rfl, h1, h2, hb⟩
  exact ⟨n1, a1, k1, c1, n2, a2, k2, c2, rfl, ⟨n1, a1, k1, c1, n2, a2, k2, c2, rfl, h1, h2⟩, hb⟩

end Go.Proofs.YtogdchddmjokmaaGreatDoor

namespace Go.Proofs.YtogdchddmjokmaaGreatDoor
open Go.RowKit Lm
set_option linter.unusedSimpArgs false
set_option linter.unusedVariables false
set_option maxRecDepth 100000

theorem may_sl (w : World) (neg : Bool) (s : Value) (l : List Nat) (h : Sl w s l) :
    Calls Tryz.prog 63 #[.agg #[.bool neg, s]] w fun e w' => e = .returned (.bool (mayB neg l)) ∧ Below w.heap.size w w' := by
  obtain ⟨ao, cap, rfl, h1⟩ := h
  exact may_any w neg ao cap l h1

/-- Whether a quotient may be. -/
def ratMayB (n1 : Bool) (l1 : List Nat) (n2 : Bool) (l2 : List Nat) : Bool :=
  mayB n1 l1 && (mayB n2 l2 && (if cmpI (sgn n2 (val l2)) 0 = 0 then cmpI (sgn n1 (val l1)) 0 == 0 else decide (0 < cmpI (sgn n2 (val l2)) 0) && decide (((Nat.gcd (sgn n1 (val l1)).natAbs (sgn n2 (val l2)).natAbs : Nat) : Int) = 1)))

theorem mean_may {neg : Bool} {l : List Nat} (h : mayB neg l = true) : mean neg l = sgn neg (val l) := by unfold mean; rw [h]; rfl

set_option maxHeartbeats 3200000 in
theorem ratMay_any (w : World) (n1 n2 : Bool) (s1 s2 : Value) (l1 l2 : List Nat) (h1 : Sl w s1 l1) (h2 : Sl w s2 l2) (k1 : l1.length ≤ 400000) (k2 : l2.length ≤ 400000) :
    Calls Tryz.prog 42 #[.agg #[.bool n1, s1, .bool n2, s2]] w fun e w' => e = .returned (.bool (ratMayB n1 l1 n2 l2)) ∧ Below w.heap.size w w' := by
  have HX : Hid (Arg w (.agg #[.bool n1, s1]) l1.length (mean n1 l1)) := hid ⟨n1, s1, l1, rfl, h1, Nat.le_refl _, rfl⟩
  have HY : Hid (Arg w (.agg #[.bool n2, s2]) l2.length (mean n2 l2)) := hid ⟨n2, s2, l2, rfl, h2, Nat.le_refl _, rfl⟩
  have HS1 := hid h1
  have HS2 := hid h2
  have HM : Hid (ratMayB n1 l1 n2 l2 = ratMayB n1 l1 n2 l2) := hid rfl
  clear h1 h2
  go_enter Tryz.func42, Tryz.ntmps42
  go_wp2_with fail
  have hW0 : Below w.heap.size w (w.alloc (.cells #[.bool n1, s1, .bool n2, s2] 26)) := (by repeat (first | exact Below.refl _ _ | refine Below.alloc ?_ ?_ _ | refine Below.setCell ?_ ?_ _ | refine Below.drew ?_ | refine below_drewN ?_ _ | (· simp) | omega | (· simp; omega) | exact Below.size (by assumption) | assumption | refine below_call ?_ (by assumption) ?_))
  have bA : Box4 (w.alloc (.cells #[.bool n1, s1, .bool n2, s2] 26)) w.heap.size (.bool n1) s1 (.bool n2) s2 := Box4.new _ _ _ _ _ _ rfl
  generalize w.alloc (.cells #[.bool n1, s1, .bool n2, s2] 26) = W0 at *
  refine (may_sl _ n1 s1 l1 (HS1.out.below hW0)).mono ?_
  rintro e w1 ⟨rfl, hb1⟩
  have hW1 := below_call hW0 hb1 hW0.size
  replace bA := bA.keep hb1
  obtain ⟨x0, x1, x2, x3⟩ := bA.c
  clear hb1
  cases hm1 : mayB n1 l1
  · have HR : Hid (ratMayB n1 l1 n2 l2 = false) := hid (by simp [ratMayB, hm1])
    clear hm1
    go_wp2
    go_ret
    exact ⟨ret_bool HR.out.symm, hW1⟩
  · have HM1 := hid (mean_may hm1)
    have HB1 := hid hm1
    clear hm1
    go_wp2_with fail
    refine (may_sl _ n2 s2 l2 (HS2.out.below hW1)).mono ?_
    rintro e w2 ⟨rfl, hb2⟩
    have hW2 := below_call hW1 hb2 hW1.size
    replace bA := bA.keep hb2
    clear x0 x1 x2 x3
    obtain ⟨x0, x1, x2, x3⟩ := bA.c
    clear hb2
    cases hm2 : mayB n2 l2
    · have HR : Hid (ratMayB n1 l1 n2 l2 = false) := hid (by simp [ratMayB, hm2])
      clear hm2
      go_wp2
      go_ret
      exact ⟨ret_bool HR.out.symm, hW2⟩
    · have HM2 := hid (mean_may hm2)
      have HR : Hid (ratMayB n1 l1 n2 l2 = (if cmpI (sgn n2 (val l2)) 0 = 0 then cmpI (sgn n1 (val l1)) 0 == 0 else decide (0 < cmpI (sgn n2 (val l2)) 0) && decide (((Nat.gcd (sgn n1 (val l1)).natAbs (sgn n2 (val l2)).natAbs : Nat) : Int) = 1))) := hid (by unfold ratMayB; rw [hm2, HB1.out]; simp)
      rw [HM1.out] at HX
      rw [HM2.out] at HY
      clear hm2
      generalize sgn n1 (val l1) = p at *
      generalize sgn n2 (val l2) = q at *
      go_wp2_with fail
      refine (sign_any _ _ _ q (HY.out.below hW2)).mono ?_
      rintro e w3 ⟨rfl, hb3⟩
      have hW3 := below_call hW2 hb3 hW2.size
      replace bA := bA.keep hb3
      clear x0 x1 x2 x3
      obtain ⟨x0, x1, x2, x3⟩ := bA.c
      clear hb3
      by_cases hq : cmpI q 0 = 0
      · have HR2 : Hid (ratMayB n1 l1 n2 l2 = (cmpI p 0 == 0)) := hid (by rw [HR.out, if_pos hq])
        rw [hq]
        clear hq
        go_wp2_with fail
        refine (sign_any _ _ _ p (HX.out.below hW3)).mono ?_
        rintro e w4 ⟨rfl, hb4⟩
        have hW4 := below_call hW3 hb4 hW3.size
        clear hb4
        go_wp2
        go_ret
        exact ⟨ret_bool HR2.out.symm, hW4⟩
      · have hqb : (cmpI q 0 == 0) = false := by simpa using hq
        have HR2 : Hid (ratMayB n1 l1 n2 l2 = (decide (0 < cmpI q 0) && decide (((Nat.gcd p.natAbs q.natAbs : Nat) : Int) = 1))) := hid (by rw [HR.out, if_neg hq])
        clear hq
        go_wp2_with fail
        refine (sign_any _ _ _ q (HY.out.below hW3)).mono ?_
        rintro e w4 ⟨rfl, hb4⟩
        have hW4 := below_call hW3 hb4 hW3.size
        replace bA := bA.keep hb4
        clear x0 x1 x2 x3
        obtain ⟨x0, x1, x2, x3⟩ := bA.c
        clear hb4 hqb
        by_cases hg : 0 < cmpI q 0
        · have hgb : decide (0 < cmpI q 0) = true := decide_eq_true hg
          have HR3 : Hid (ratMayB n1 l1 n2 l2 = decide (((Nat.gcd p.natAbs q.natAbs : Nat) : Int) = 1)) := hid (by rw [HR2.out, hgb]; simp)
          clear hg
          go_wp2_with fail
          refine (gcd_num _ _ _ _ _ p q (HX.out.below hW4) (HY.out.below hW4) k1 k2).mono ?_
          rintro e w5 ⟨ng, ag, kg, cg, rfl, Ig, hb5⟩
          have hW5 := below_call hW4 hb5 hW4.size
          have IG := hid Ig
          clear hb5 Ig x0 x1 x2 x3
          go_wp2_with fail
          refine (isOne_any _ _ _ _ IG.out.arg).mono ?_
          rintro e w6 ⟨rfl, hb6⟩
          have hW6 := below_call hW5 hb6 hW5.size
          clear hb6
          go_wp2
          go_ret
          exact ⟨ret_bool HR3.out.symm, hW6⟩
        · have hgb : decide (0 < cmpI q 0) = false := decide_eq_false hg
          have HR3 : Hid (ratMayB n1 l1 n2 l2 = false) := hid (by rw [HR2.out, hgb]; simp)
          clear hg
          go_wp2
          go_ret
          exact ⟨ret_bool HR3.out.symm, hW4⟩

/-- What is counted: two numbers, a quotient's. -/
def RCnt (n : Nat) (r : Rat) (w : World) (e : Ending) (w' : World) : Prop :=
  ∃ m1 b1 j1 d1 m2 b2 j2 d2, e = .returned (.agg #[.bool m1, .slice b1 j1 d1, .bool m2, .slice b2 j2 d2]) ∧ Arg w' (.agg #[.bool m1, .slice b1 j1 d1]) n r.num ∧ Arg w' (.agg #[.bool m2, .slice b2 j2 d2]) n (r.den : Int) ∧ Below w.heap.size w w'

theorem may_form {n1 : Bool} {l1 : List Nat} {n2 : Bool} {l2 : List Nat} (h : ratMayB n1 l1 n2 l2 = true) (hq : cmpI (mean n2 l2) 0 ≠ 0) : formB n1 l1 n2 l2 := by
  unfold ratMayB at h
  simp only [Bool.and_eq_true] at h
  obtain ⟨m1, m2, h⟩ := h
  rw [mean_may m2] at hq
  rw [if_neg hq] at h
  simp only [Bool.and_eq_true, decide_eq_true_eq] at h
  refine ⟨m1, m2, ?_, ?_⟩
  · have := h.1
    unfold cmpI at this
    split at this
    · omega
    · split at this <;> omega
  · have := h.2
    rw [sgn_abs, sgn_abs] at this
    omega
theorem form_may {n1 : Bool} {l1 : List Nat} {n2 : Bool} {l2 : List Nat} (h : formB n1 l1 n2 l2) : ratMayB n1 l1 n2 l2 = true ∧ cmpI (mean n2 l2) 0 ≠ 0 := by
  obtain ⟨m1, m2, hq, hg⟩ := h
  have hc : cmpI (sgn n2 (val l2)) 0 = 1 := cmpI_gt hq
  refine ⟨?_, by rw [mean_may m2, hc]; omega⟩
  unfold ratMayB
  rw [m1, m2, hc, sgn_abs, sgn_abs, hg]
  simp

theorem ris_1 {w : World} {lo n : Nat} {r : Rat} {n1 n2 : Bool} {a1 a2 : Option Addr} {k1 c1 k2 c2 : Nat} (h : RIs w lo (.agg #[.bool n1, .slice a1 k1 c1, .bool n2, .slice a2 k2 c2]) n r) : Is w lo (.agg #[.bool n1, .slice a1 k1 c1]) n r.num := by
  obtain ⟨_, _, _, _, _, _, _, _, he, I1, I2⟩ := h
  simp only [Value.agg.injEq, Array.mk.injEq, List.cons.injEq, Value.bool.injEq, Value.slice.injEq, and_true] at he
  obtain ⟨rfl, ⟨rfl, rfl, rfl⟩, rfl, rfl, rfl, rfl⟩ := he
  exact I1
theorem ris_2 {w : World} {lo n : Nat} {r : Rat} {n1 n2 : Bool} {a1 a2 : Option Addr} {k1 c1 k2 c2 : Nat} (h : RIs w lo (.agg #[.bool n1, .slice a1 k1 c1, .bool n2, .slice a2 k2 c2]) n r) : Is w lo (.agg #[.bool n2, .slice a2 k2 c2]) n (r.den : Int) := by
  obtain ⟨_, _, _, _, _, _, _, _, he, I1, I2⟩ := h
  simp only [Value.agg.injEq, Array.mk.injEq, List.cons.injEq, Value.bool.injEq, Value.slice.injEq, and_true] at he
  obtain ⟨rfl, ⟨rfl, rfl, rfl⟩, rfl, rfl, rfl, rfl⟩ := he
  exact I2

set_option maxHeartbeats 3200000 in
theorem ratCounted_any (w : World) (u : Value) (n : Nat) (r : Rat) (h : RArg w u n r) (hn : n ≤ 400000) :
    Calls Tryz.prog 20 #[u] w (RCnt (n + 2) r w) := by
  obtain ⟨n1, s1, l1, n2, s2, l2, rfl, h1, h2, k1, k2, rfl⟩ := h
  have HX : Hid (Arg w (.agg #[.bool n1, s1]) l1.length (mean n1 l1)) := hid ⟨n1, s1, l1, rfl, h1, Nat.le_refl _, rfl⟩
  have HY : Hid (Arg w (.agg #[.bool n2, s2]) l2.length (mean n2 l2)) := hid ⟨n2, s2, l2, rfl, h2, Nat.le_refl _, rfl⟩
  have HS1 := hid h1
  have HS2 := hid h2
  obtain ⟨a1, c1, rfl, -⟩ := h1
  obtain ⟨a2, c2, rfl, -⟩ := h2
  have HK1 := hid k1
  have HK2 := hid k2
  have HL1 : Hid (l1.length ≤ 400000) := hid (by omega)
  have HL2 : Hid (l2.length ≤ 400000) := hid (by omega)
  obtain ⟨L1, hL1⟩ : ∃ L1, L1 = l1.length := ⟨_, rfl⟩
  obtain ⟨L2, hL2⟩ : ∃ L2, L2 = l2.length := ⟨_, rfl⟩
  rw [← hL1] at HX HS1 HK1 ⊢
  rw [← hL2] at HY HS2 HK2 ⊢
  clear k1 k2 hL1 hL2
  go_enter Tryz.func20, Tryz.ntmps20
  go_wp2_with fail
  have hW0 : Below w.heap.size w ((w.alloc (.cells #[.bool n1, .slice a1 L1 c1, .bool n2, .slice a2 L2 c2] 26)).alloc (.cells #[.bool false, .slice none 0 0, .bool false, .slice none 0 0] 26)) := (by repeat (first | exact Below.refl _ _ | refine Below.alloc ?_ ?_ _ | refine Below.setCell ?_ ?_ _ | refine Below.drew ?_ | refine below_drewN ?_ _ | (· simp) | omega | (· simp; omega) | exact Below.size (by assumption) | assumption | refine below_call ?_ (by assumption) ?_))
  have bA : Box4 ((w.alloc (.cells #[.bool n1, .slice a1 L1 c1, .bool n2, .slice a2 L2 c2] 26)).alloc (.cells #[.bool false, .slice none 0 0, .bool false, .slice none 0 0] 26)) w.heap.size (.bool n1) (.slice a1 L1 c1) (.bool n2) (.slice a2 L2 c2) := (Box4.new _ _ _ _ _ _ rfl).alloc _
  have bR : Box4 ((w.alloc (.cells #[.bool n1, .slice a1 L1 c1, .bool n2, .slice a2 L2 c2] 26)).alloc (.cells #[.bool false, .slice none 0 0, .bool false, .slice none 0 0] 26)) (w.heap.size + 1) (.bool false) (.slice none 0 0) (.bool false) (.slice none 0 0) := Box4.new _ _ _ _ _ _ (by simp)
  generalize (w.alloc (.cells #[.bool n1, .slice a1 L1 c1, .bool n2, .slice a2 L2 c2] 26)).alloc (.cells #[.bool false, .slice none 0 0, .bool false, .slice none 0 0] 26) = W0 at *
  refine (ratMay_any _ n1 n2 _ _ l1 l2 (HS1.out.below hW0) (HS2.out.below hW0) HL1.out HL2.out).mono ?_
  rintro e w1 ⟨rfl, hb1⟩
  have hW1 := below_call hW0 hb1 hW0.size
  replace bA := bA.keep hb1
  replace bR := bR.keep hb1
  obtain ⟨x0, x1, x2, x3⟩ := bA.c
  clear hb1
  cases hm : ratMayB n1 l1 n2 l2
  · have HF : Hid (ratMean n1 l1 n2 l2 = 0) := hid (ratMean_not (fun h => by rw [(form_may h).1] at hm; simp at hm))
    clear hm
    go_wp2_with fail
    refine (ratOf_say _ 0 (by omega) (by omega)).mono ?_
    rintro e w2 ⟨m1, b1, j1, d1, m2, b2, j2, d2, rfl, HI, hb2⟩
    have hWn := below_call hW1 hb2 hW1.size
    have hz := bR.lt
    replace bR := bR.keep hb2
    have J := hid HI
    clear hb2 HI x0 x1 x2 x3
    obtain ⟨x0, x1, x2, x3⟩ := bR.c
    have xf := bR.f
    go_wp2
    refine bodyPost_ret (v := .agg #[.bool m1, .slice b1 j1 d1, .bool m2, .slice b2 j2 d2]) ?_ rfl ⟨m1, b1, j1, d1, m2, b2, j2, d2, rfl, ?_, ?_, (((hWn.setCell (by show w.heap.size ≤ w.heap.size + 1; omega) _).setCell (by show w.heap.size ≤ w.heap.size + 1; omega) _).setCell (by show w.heap.size ≤ w.heap.size + 1; omega) _).setCell (by show w.heap.size ≤ w.heap.size + 1; omega) _⟩
    · simp [results, Tryz.results20, go_sem, x0, x1, x2, x3]
    · rw [HF.out]
      exact (((((ris_1 J.out).setCell (by show w.heap.size + 1 < _; omega) _).setCell (by show w.heap.size + 1 < _; omega) _).setCell (by show w.heap.size + 1 < _; omega) _).setCell (by show w.heap.size + 1 < _; omega) _).arg.mono (by omega)
    · rw [HF.out]
      exact (((((ris_2 J.out).setCell (by show w.heap.size + 1 < _; omega) _).setCell (by show w.heap.size + 1 < _; omega) _).setCell (by show w.heap.size + 1 < _; omega) _).setCell (by show w.heap.size + 1 < _; omega) _).arg.mono (by omega)
  · go_wp2_with fail
    refine (sign_any _ _ _ _ (HY.out.below hW1)).mono ?_
    rintro e w2 ⟨rfl, hb2⟩
    have hW2 := below_call hW1 hb2 hW1.size
    replace bA := bA.keep hb2
    replace bR := bR.keep hb2
    clear hb2 x0 x1 x2 x3
    obtain ⟨x0, x1, x2, x3⟩ := bA.c
    by_cases hq : cmpI (mean n2 l2) 0 = 0
    · have HF : Hid (ratMean n1 l1 n2 l2 = 0) := hid (ratMean_not (fun h => (form_may h).2 hq))
      rw [hq]
      clear hq hm
      go_wp2_with fail
      refine (ratOf_say _ 0 (by omega) (by omega)).mono ?_
      rintro e w3 ⟨m1, b1, j1, d1, m2, b2, j2, d2, rfl, HI, hb2⟩
      have hWn := below_call hW2 hb2 hW2.size
      have hz := bR.lt
      replace bR := bR.keep hb2
      have J := hid HI
      clear hb2 HI x0 x1 x2 x3
      obtain ⟨x0, x1, x2, x3⟩ := bR.c
      have xf := bR.f
      go_wp2
      refine bodyPost_ret (v := .agg #[.bool m1, .slice b1 j1 d1, .bool m2, .slice b2 j2 d2]) ?_ rfl ⟨m1, b1, j1, d1, m2, b2, j2, d2, rfl, ?_, ?_, (((hWn.setCell (by show w.heap.size ≤ w.heap.size + 1; omega) _).setCell (by show w.heap.size ≤ w.heap.size + 1; omega) _).setCell (by show w.heap.size ≤ w.heap.size + 1; omega) _).setCell (by show w.heap.size ≤ w.heap.size + 1; omega) _⟩
      · simp [results, Tryz.results20, go_sem, x0, x1, x2, x3]
      · rw [HF.out]
        exact (((((ris_1 J.out).setCell (by show w.heap.size + 1 < _; omega) _).setCell (by show w.heap.size + 1 < _; omega) _).setCell (by show w.heap.size + 1 < _; omega) _).setCell (by show w.heap.size + 1 < _; omega) _).arg.mono (by omega)
      · rw [HF.out]
        exact (((((ris_2 J.out).setCell (by show w.heap.size + 1 < _; omega) _).setCell (by show w.heap.size + 1 < _; omega) _).setCell (by show w.heap.size + 1 < _; omega) _).setCell (by show w.heap.size + 1 < _; omega) _).arg.mono (by omega)
    · have hqb : (cmpI (mean n2 l2) 0 == 0) = false := by simpa using hq
      have hf := may_form hm hq
      have hp := ratMean_parts hf
      have HP1 : Hid ((ratMean n1 l1 n2 l2).num = mean n1 l1) := hid (by rw [hp.1, mean_may hf.1])
      have HP2 : Hid (((ratMean n1 l1 n2 l2).den : Int) = mean n2 l2) := hid (by rw [hp.2, mean_may hf.2.1])
      obtain ⟨y0, y1, y2, y3⟩ := bR.c
      have yf := bR.f
      have lA := bA.lt
      have lR := bR.lt
      clear hq hm hf hp
      go_wp2
      have hWn : Below w.heap.size w ((((w2.setCell ⟨w.heap.size + 1, 0, none⟩ (.bool n1)).setCell ⟨w.heap.size + 1, 1, none⟩ (.slice a1 L1 c1)).setCell ⟨w.heap.size + 1, 2, none⟩ (.bool n2)).setCell ⟨w.heap.size + 1, 3, none⟩ (.slice a2 L2 c2)) := (((hW2.setCell (by show w.heap.size ≤ w.heap.size + 1; omega) _).setCell (by show w.heap.size ≤ w.heap.size + 1; omega) _).setCell (by show w.heap.size ≤ w.heap.size + 1; omega) _).setCell (by show w.heap.size ≤ w.heap.size + 1; omega) _
      refine bodyPost_ret (v := .agg #[.bool n1, .slice a1 L1 c1, .bool n2, .slice a2 L2 c2]) ?_ rfl ⟨n1, a1, L1, c1, n2, a2, L2, c2, rfl, ?_, ?_, hWn⟩
      · simp [results, Tryz.results20, go_sem, y0, y1, y2, y3]
      · rw [HP1.out]
        exact (HX.out.below hWn).mono (by have := HK1.out; omega)
      · rw [HP2.out]
        exact (HY.out.below hWn).mono (by have := HK2.out; omega)

end Go.Proofs.YtogdchddmjokmaaGreatDoor

namespace Go.Proofs.YtogdchddmjokmaaGreatDoor
open Go.RowKit Lm
set_option linter.unusedSimpArgs false
set_option linter.unusedVariables false
set_option maxRecDepth 100000

/-- A quotient's box: no limbs lie in it. -/
theorem SlAt.off4 {W W' : World} {ao : Option Addr} {cap g k1 d1 k2 d2 : Nat} {l : List Nat} {a1 a2 : Option Addr} {b1 b2 : Bool} (h : SlAt W ao cap l) (hg : Box4 W g (.bool b1) (.slice a1 k1 d1) (.bool b2) (.slice a2 k2 d2)) (hW : W.grownBy W' (some g)) : SlAt W' ao cap l := by
  by_cases h0 : l.length = 0
  · obtain ⟨h1, h2, h3, h4⟩ := h
    refine ⟨h1, h2, h3, ?_⟩
    rcases h4 with h4 | ⟨b', off, e, hlt, hc⟩
    · exact .inl h4
    · exact .inl ⟨h0, fun h => by rw [e] at h; simp at h⟩
  · refine slAt_grow h hW ?_
    rintro ad rfl hb
    obtain ⟨-, -, -, h4⟩ := h
    rcases h4 with h4 | ⟨b', off, e, hlt, hc⟩
    · exact h0 h4.1
    · simp only [Option.some.injEq] at e
      subst e
      simp only at hb
      subst hb
      have h5 := hc 0 (by omega)
      rw [cell_of_row W b' (off + 0) #[.bool b1, .slice a1 k1 d1, .bool b2, .slice a2 k2 d2] 26 (0, 0) hg] at h5
      rcases (show off = 0 ∨ off = 1 ∨ off = 2 ∨ off = 3 ∨ 4 ≤ off by omega) with rfl | rfl | rfl | rfl | h6
      · simp at h5
      · simp at h5
      · simp at h5
      · simp at h5
      · rw [Array.getElem?_eq_none (by simp; omega)] at h5
        simp at h5
/-- A box that is filled. -/
def fill4 (W : World) (g : Nat) (p q r s : Value) : World := (((W.setCell ⟨g, 0, none⟩ p).setCell ⟨g, 1, none⟩ q).setCell ⟨g, 2, none⟩ r).setCell ⟨g, 3, none⟩ s
theorem grow4 (W : World) (g : Nat) (p q r s : Value) : W.grownBy (fill4 W g p q r s) (some g) := grow_set (grow_set (grow_set (grow_set (grow_refl _ _) _ _) _ _) _ _) _ _
theorem size4 (W : World) (g : Nat) (p q r s : Value) : (fill4 W g p q r s).heap.size = W.heap.size := by simp [fill4, World.setCell]
theorem Box4.filled {W : World} {g : Nat} {a b c d : Value} (h : Box4 W g a b c d) (p q r s : Value) : Box4 (fill4 W g p q r s) g p q r s := by
  have h1 : Box4 (W.setCell ⟨g, 0, none⟩ p) g p b c d := by unfold Box4; rw [heap_setCell_same W g 0 _ _ p h]; rfl
  have h2 : Box4 ((W.setCell ⟨g, 0, none⟩ p).setCell ⟨g, 1, none⟩ q) g p q c d := by unfold Box4; rw [heap_setCell_same _ g 1 _ _ q h1]; rfl
  have h3 : Box4 (((W.setCell ⟨g, 0, none⟩ p).setCell ⟨g, 1, none⟩ q).setCell ⟨g, 2, none⟩ r) g p q r d := by unfold Box4; rw [heap_setCell_same _ g 2 _ _ r h2]; rfl
  unfold fill4 Box4
  rw [heap_setCell_same _ g 3 _ _ s h3]
  rfl
theorem Box4.beside {W : World} {g h : Nat} {a b c d : Value} (hg : Box4 W g a b c d) (hne : g ≠ h) (p q r s : Value) : Box4 (fill4 W h p q r s) g a b c d := (((hg.other hne _).other hne _).other hne _).other hne _
theorem Box.beside4 {W : World} {g h : Nat} {a b : Value} (hg : Box W g a b) (hne : g ≠ h) (p q r s : Value) : Box (fill4 W h p q r s) g a b := (((hg.other hne _).other hne _).other hne _).other hne _
theorem below_fill4 {B : Nat} {w W : World} {g : Nat} (h : Below B w W) (hg : B ≤ g) (p q r s : Value) : Below B w (fill4 W g p q r s) := (((h.setCell hg _).setCell hg _).setCell hg _).setCell hg _
theorem fill4_eq (W : World) (g : Nat) (p q r s : Value) : (((W.setCell ⟨g, 0, none⟩ p).setCell ⟨g, 1, none⟩ q).setCell ⟨g, 2, none⟩ r).setCell ⟨g, 3, none⟩ s = fill4 W g p q r s := rfl

structure RE (U W : World) (KA KI : List (Value × Nat × Int)) (KR KS : List (Value × Nat × Rat)) : Prop where
  a : ∀ p ∈ KA, Arg W p.1 p.2.1 p.2.2
  i : ∀ p ∈ KI, Is W 0 p.1 p.2.1 p.2.2
  r : ∀ p ∈ KR, RArg W p.1 p.2.1 p.2.2
  s : ∀ p ∈ KS, RIs W 0 p.1 p.2.1 p.2.2
  bl : Below U.heap.size U W

variable {U W W' : World} {KA KI KA' KI' : List (Value × Nat × Int)} {KR KS KR' KS' : List (Value × Nat × Rat)} {u v : Value} {n m : Nat} {x y : Int} {r t : Rat}

theorem RE.none (W : World) : RE W W [] [] [] [] := ⟨by simp, by simp, by simp, by simp, Below.refl _ _⟩
theorem RE.step (E : RE U W KA KI KR KS) (hb : Below W.heap.size W W') : RE U W' KA KI KR KS :=
  ⟨fun p hp => (E.a p hp).below hb, fun p hp => (E.i p hp).below hb, fun p hp => (E.r p hp).below hb, fun p hp => (E.s p hp).below hb, below_call E.bl hb E.bl.size⟩
theorem RE.drew (E : RE U W KA KI KR KS) : RE U W.drew KA KI KR KS :=
  ⟨fun p hp => E.a p hp, fun p hp => (E.i p hp).drew, fun p hp => E.r p hp, fun p hp => E.s p hp, E.bl.drew⟩
theorem RE.alloc (E : RE U W KA KI KR KS) (o : Obj) : RE U (W.alloc o) KA KI KR KS := E.step ((Below.refl _ _).alloc (Nat.le_refl _) o)
theorem RE.rebase (E : RE U W KA KI KR KS) : RE W W KA KI KR KS := ⟨E.a, E.i, E.r, E.s, Below.refl _ _⟩
theorem RE.onto {w : World} (hU : Below w.heap.size w U) (E : RE U W KA KI KR KS) : RE w W KA KI KR KS := ⟨E.a, E.i, E.r, E.s, below_call hU E.bl hU.size⟩
theorem RE.less (E : RE U W KA KI KR KS) (hA : ∀ p ∈ KA', p ∈ KA) (hI : ∀ p ∈ KI', p ∈ KI) (hR : ∀ p ∈ KR', p ∈ KR) (hS : ∀ p ∈ KS', p ∈ KS) : RE U W KA' KI' KR' KS' :=
  ⟨fun p hp => E.a p (hA p hp), fun p hp => E.i p (hI p hp), fun p hp => E.r p (hR p hp), fun p hp => E.s p (hS p hp), E.bl⟩
theorem RE.know (E : RE U W KA KI KR KS) (h : Arg W v n x) : RE U W ((v, n, x) :: KA) KI KR KS := by
  refine ⟨fun p hp => ?_, E.i, E.r, E.s, E.bl⟩
  rcases List.mem_cons.1 hp with rfl | h'
  · exact h
  · exact E.a p h'
theorem RE.knowR (E : RE U W KA KI KR KS) (h : RArg W v n r) : RE U W KA KI ((v, n, r) :: KR) KS := by
  refine ⟨E.a, E.i, fun p hp => ?_, E.s, E.bl⟩
  rcases List.mem_cons.1 hp with rfl | h'
  · exact h
  · exact E.r p h'
theorem RE.knowI {lo : Nat} (E : RE U W KA KI KR KS) (h : Is W lo v n x) : RE U W ((v, n, x) :: KA) ((v, n, x) :: KI) KR KS := by
  have E2 := E.know h.arg
  refine ⟨E2.a, fun p hp => ?_, E2.r, E2.s, E2.bl⟩
  rcases List.mem_cons.1 hp with rfl | h'
  · exact h.mono (Nat.zero_le _) (Nat.le_refl _)
  · exact E.i p h'
theorem RE.knowS {lo : Nat} (E : RE U W KA KI KR KS) (h : RIs W lo v n r) : RE U W KA KI ((v, n, r) :: KR) ((v, n, r) :: KS) := by
  have E2 := E.knowR h.arg
  refine ⟨E2.a, E2.i, E2.r, fun p hp => ?_, E2.bl⟩
  rcases List.mem_cons.1 hp with rfl | h'
  · exact h.mono (Nat.zero_le _) (Nat.le_refl _)
  · exact E.s p h'
theorem Arg.off4 {g k1 d1 k2 d2 : Nat} {a1 a2 : Option Addr} {b1 b2 : Bool} (h : Arg W v n x) (hg : Box4 W g (.bool b1) (.slice a1 k1 d1) (.bool b2) (.slice a2 k2 d2)) (hW : W.grownBy W' (some g)) : Arg W' v n x := by
  obtain ⟨neg, sv, l, e, ⟨ao, cap, e2, hs⟩, hr⟩ := h
  exact ⟨neg, sv, l, e, ⟨ao, cap, e2, hs.off4 hg hW⟩, hr⟩
theorem Is.off4 {lo g k1 d1 k2 d2 : Nat} {a1 a2 : Option Addr} {b1 b2 : Bool} (h : Is W lo v n x) (hg : Box4 W g (.bool b1) (.slice a1 k1 d1) (.bool b2) (.slice a2 k2 d2)) (hW : W.grownBy W' (some g)) : Is W' lo v n x := by
  obtain ⟨neg, ao, cap, l, e, hs, hr⟩ := h
  exact ⟨neg, ao, cap, l, e, hs.off4 hg hW, hr⟩
theorem RArg.off4 {g k1 d1 k2 d2 : Nat} {a1 a2 : Option Addr} {b1 b2 : Bool} (h : RArg W v n r) (hg : Box4 W g (.bool b1) (.slice a1 k1 d1) (.bool b2) (.slice a2 k2 d2)) (hW : W.grownBy W' (some g)) : RArg W' v n r := by
  obtain ⟨n1, s1, l1, n2, s2, l2, e, ⟨p1, q1, e1, h1⟩, ⟨p2, q2, e2, h2⟩, hr⟩ := h
  exact ⟨n1, s1, l1, n2, s2, l2, e, ⟨p1, q1, e1, h1.off4 hg hW⟩, ⟨p2, q2, e2, h2.off4 hg hW⟩, hr⟩
theorem RIs.off4 {lo g k1 d1 k2 d2 : Nat} {a1 a2 : Option Addr} {b1 b2 : Bool} (h : RIs W lo v n r) (hg : Box4 W g (.bool b1) (.slice a1 k1 d1) (.bool b2) (.slice a2 k2 d2)) (hW : W.grownBy W' (some g)) : RIs W' lo v n r := by
  obtain ⟨n1, p1, q1, c1, n2, p2, q2, c2, e, h1, h2⟩ := h
  exact ⟨n1, p1, q1, c1, n2, p2, q2, c2, e, h1.off4 hg hW, h2.off4 hg hW⟩
theorem RE.fill {g k1 d1 k2 d2 : Nat} {a1 a2 : Option Addr} {b1 b2 : Bool} (E : RE U W KA KI KR KS) (hg : Box4 W g (.bool b1) (.slice a1 k1 d1) (.bool b2) (.slice a2 k2 d2)) (h0 : U.heap.size ≤ g) (p q z s : Value) : RE U (fill4 W g p q z s) KA KI KR KS :=
  ⟨fun o ho => (E.a o ho).off4 hg (grow4 _ _ _ _ _ _), fun o ho => (E.i o ho).off4 hg (grow4 _ _ _ _ _ _), fun o ho => (E.r o ho).off4 hg (grow4 _ _ _ _ _ _), fun o ho => (E.s o ho).off4 hg (grow4 _ _ _ _ _ _), below_fill4 E.bl h0 _ _ _ _⟩
/-- The same, for a box that lay there already: what is old has turned in that box alone. -/
theorem RE.refill {g k1 d1 k2 d2 : Nat} {a1 a2 : Option Addr} {b1 b2 : Bool} (E : RE U W KA KI KR KS) (hg : Box4 W g (.bool b1) (.slice a1 k1 d1) (.bool b2) (.slice a2 k2 d2)) (p q z s : Value) : RE (fill4 W g p q z s) (fill4 W g p q z s) KA KI KR KS :=
  ⟨fun o ho => (E.a o ho).off4 hg (grow4 _ _ _ _ _ _), fun o ho => (E.i o ho).off4 hg (grow4 _ _ _ _ _ _), fun o ho => (E.r o ho).off4 hg (grow4 _ _ _ _ _ _), fun o ho => (E.s o ho).off4 hg (grow4 _ _ _ _ _ _), Below.refl _ _⟩

/-- A number has been told; a quotient has been told. -/
def SaysN (U : World) (KA KI : List (Value × Nat × Int)) (KR KS : List (Value × Nat × Rat)) (n : Nat) (x : Int) (e : Ending) (w' : World) : Prop :=
  ∃ neg ao k cap, e = .returned (.agg #[.bool neg, .slice ao k cap]) ∧ RE U w' ((.agg #[.bool neg, .slice ao k cap], n, x) :: KA) ((.agg #[.bool neg, .slice ao k cap], n, x) :: KI) KR KS
def SaysQ (U : World) (KA KI : List (Value × Nat × Int)) (KR KS : List (Value × Nat × Rat)) (n : Nat) (r : Rat) (e : Ending) (w' : World) : Prop :=
  ∃ n1 a1 k1 c1 n2 a2 k2 c2, e = .returned (.agg #[.bool n1, .slice a1 k1 c1, .bool n2, .slice a2 k2 c2]) ∧ RE U w' KA KI ((.agg #[.bool n1, .slice a1 k1 c1, .bool n2, .slice a2 k2 c2], n, r) :: KR) ((.agg #[.bool n1, .slice a1 k1 c1, .bool n2, .slice a2 k2 c2], n, r) :: KS)
theorem saysN_of {lo : Nat} {e : Ending} (E : RE U W KA KI KR KS) (h : Told lo n x W e W') : SaysN U KA KI KR KS n x e W' := by
  obtain ⟨neg, ao, k, cap, rfl, hI, hb⟩ := h
  exact ⟨neg, ao, k, cap, rfl, (E.step hb).knowI hI⟩
theorem saysQ_of {lo : Nat} {e : Ending} (E : RE U W KA KI KR KS) (h : RSay lo n r W e W') : SaysQ U KA KI KR KS n r e W' := by
  obtain ⟨n1, a1, k1, c1, n2, a2, k2, c2, rfl, hI, hb⟩ := h
  exact ⟨n1, a1, k1, c1, n2, a2, k2, c2, rfl, (E.step hb).knowS hI⟩
theorem re_of (E : RE U W KA KI KR KS) (x : Int) (h1 : -9223372036854775808 ≤ x) (h2 : x ≤ 9223372036854775807) : Calls Tryz.prog 30 #[.int .i64 x] W (SaysN U KA KI KR KS 2 x) :=
  (of_num W x h1 h2).mono fun _ _ h => saysN_of E h
theorem re_rof (E : RE U W KA KI KR KS) (x : Int) (h1 : -9223372036854775808 ≤ x) (h2 : x ≤ 9223372036854775807) : Calls Tryz.prog 13 #[.int .i64 x] W (SaysN U KA KI KR KS 2 x) :=
  (rof_num W x h1 h2).mono fun _ _ h => saysN_of E h
theorem re_add (E : RE U W KA KI KR KS) (hu : (u, n, x) ∈ KA) (hv : (v, m, y) ∈ KA) (hn : n ≤ 1000000) (hm : m ≤ 1000000) : Calls Tryz.prog 59 #[u, v] W (SaysN U KA KI KR KS (n + m + 1) (x + y)) :=
  (add_num W u v n m x y (E.a _ hu) (E.a _ hv) hn hm).mono fun _ _ h => saysN_of E h
theorem re_sub (E : RE U W KA KI KR KS) (hu : (u, n, x) ∈ KA) (hv : (v, m, y) ∈ KA) (hn : n ≤ 1000000) (hm : m ≤ 1000000) : Calls Tryz.prog 29 #[u, v] W (SaysN U KA KI KR KS (n + m + 1) (x - y)) :=
  (sub_num W u v n m x y (E.a _ hu) (E.a _ hv) hn hm).mono fun _ _ h => saysN_of E h
theorem re_mul (E : RE U W KA KI KR KS) (hu : (u, n, x) ∈ KA) (hv : (v, m, y) ∈ KA) (hn : n ≤ 500000) (hm : m ≤ 500000) : Calls Tryz.prog 60 #[u, v] W (SaysN U KA KI KR KS (n + m) (x * y)) :=
  (mul_num W u v n m x y (E.a _ hu) (E.a _ hv) hn hm).mono fun _ _ h => saysN_of E h
theorem re_neg (E : RE U W KA KI KR KS) (hu : (u, n, x) ∈ KA) (hn : n ≤ 500000) : Calls Tryz.prog 36 #[u] W (SaysN U KA KI KR KS n (-x)) :=
  (neg_num W u n x (E.a _ hu) (by omega)).mono fun _ _ h => saysN_of E h
theorem re_cmp (E : RE U W KA KI KR KS) (hu : (u, n, x) ∈ KA) (hv : (v, m, y) ∈ KA) : Calls Tryz.prog 44 #[u, v] W fun e w' => e = .returned (.int .i64 (cmpI x y)) ∧ RE U w' KA KI KR KS := by
  refine (cmp_num W u v n m x y (E.a _ hu) (E.a _ hv)).mono ?_
  rintro e w' ⟨rfl, hb⟩
  exact ⟨rfl, E.step hb⟩
theorem re_text (E : RE U W KA KI KR KS) (hu : (u, n, x) ∈ KA) (hn : n ≤ 1000000) : Calls Tryz.prog 22 #[u] W fun e w' => e = .returned (.string (str (textOf x))) ∧ RE U w' KA KI KR KS := by
  refine (text_num W u n x (E.a _ hu) hn).mono ?_
  rintro e w' ⟨rfl, hb⟩
  exact ⟨rfl, E.step hb⟩
theorem re_num (E : RE U W KA KI KR KS) (x : Int) : Calls Tryz.prog 11 #[.int .i64 x] W fun e w' => e = .returned (.int .i64 x) ∧ RE U w' KA KI KR KS := by
  refine (num_any W x).mono ?_
  rintro e w' ⟨rfl, rfl⟩
  exact ⟨rfl, E⟩
theorem re_same (E : RE U W KA KI KR KS) (hu : (u, n, x) ∈ KI) (hv : (v, m, y) ∈ KI) : Calls Tryz.prog 14 #[u, v] W fun e w' => e = .returned (.bool (decide (x = y))) ∧ RE U w' KA KI KR KS := by
  refine (same_num W u v n m 0 0 x y (E.i _ hu) (E.i _ hv)).mono ?_
  rintro e w' ⟨rfl, hb⟩
  exact ⟨rfl, E.step hb⟩
theorem re_ratOf (E : RE U W KA KI KR KS) (x : Int) (h1 : -9223372036854775808 ≤ x) (h2 : x ≤ 9223372036854775807) : Calls Tryz.prog 43 #[.int .i64 x] W (SaysQ U KA KI KR KS 2 (x : Rat)) :=
  (ratOf_say W x h1 h2).mono fun _ _ h => saysQ_of E h
theorem re_least (E : RE U W KA KI KR KS) (hu : (u, n, x) ∈ KA) (hv : (v, m, y) ∈ KA) (hy : y ≠ 0) (hn : n ≤ 100000) (hm : m ≤ 100000) : Calls Tryz.prog 26 #[u, v] W (SaysQ U KA KI KR KS (n + m) (Rat.divInt x y)) :=
  (least_say W u v n m x y (E.a _ hu) (E.a _ hv) hy hn hm).mono fun _ _ h => saysQ_of E h
/-- What is counted is known by its two numbers. -/
theorem re_counted (E : RE U W KA KI KR KS) (hu : (u, n, r) ∈ KR) (hn : n ≤ 400000) : Calls Tryz.prog 20 #[u] W fun e w' => ∃ m1 b1 j1 d1 m2 b2 j2 d2, e = .returned (.agg #[.bool m1, .slice b1 j1 d1, .bool m2, .slice b2 j2 d2]) ∧ RE U w' ((.agg #[.bool m1, .slice b1 j1 d1], n + 2, r.num) :: (.agg #[.bool m2, .slice b2 j2 d2], n + 2, (r.den : Int)) :: KA) KI KR KS := by
  refine (ratCounted_any W u n r (E.r _ hu) hn).mono ?_
  rintro e w' ⟨m1, b1, j1, d1, m2, b2, j2, d2, rfl, h1, h2, hb⟩
  exact ⟨m1, b1, j1, d1, m2, b2, j2, d2, rfl, ((E.step hb).know h2).know h1⟩
theorem keep44 {a b : Nat} {p q r s p' q' r' s' : Value} (h1 : Box4 U a p q r s) (h2 : Box4 U b p' q' r' s') (hb : Below U.heap.size U W) :
    W.cell? ⟨a, 0, none⟩ = some p ∧ W.cell? ⟨a, 1, none⟩ = some q ∧ W.cell? ⟨a, 2, none⟩ = some r ∧ W.cell? ⟨a, 3, none⟩ = some s ∧ W.cell? ⟨b, 0, none⟩ = some p' ∧ W.cell? ⟨b, 1, none⟩ = some q' ∧ W.cell? ⟨b, 2, none⟩ = some r' ∧ W.cell? ⟨b, 3, none⟩ = some s' := by
  obtain ⟨x0, x1, x2, x3⟩ := (h1.keep hb).c
  obtain ⟨y0, y1, y2, y3⟩ := (h2.keep hb).c
  exact ⟨x0, x1, x2, x3, y0, y1, y2, y3⟩

end Go.Proofs.YtogdchddmjokmaaGreatDoor

namespace Go.Proofs.YtogdchddmjokmaaGreatDoor
open Go.RowKit Lm
set_option linter.unusedSimpArgs false
set_option linter.unusedVariables false
set_option maxRecDepth 100000

set_option maxHeartbeats 1600000 in
theorem quo_zero (w : World) (u v : Value) (n m : Nat) (x y : Int) (hx : Arg w u n x) (hy : Arg w v m y) (h0 : y = 0) :
    Calls Tryz.prog 12 #[u, v] w fun e w' => e = .returned (.tuple #[.agg #[.bool false, .slice none 0 0, .bool false, .slice none 0 0], .int .i64 11]) ∧ Below w.heap.size w w' := by
  have HX := hid hx
  have HY := hid hy
  obtain ⟨n1, s1, l1, rfl, -⟩ := hx
  obtain ⟨n2, s2, l2, rfl, -⟩ := hy
  go_enter Tryz.func12, Tryz.ntmps12
  go_wp2_with fail
  have hW0 : Below w.heap.size w (((w.alloc (.cells #[.bool n1, s1] 24)).alloc (.cells #[.bool n2, s2] 24)).alloc (.cells #[.bool false, .slice none 0 0, .bool false, .slice none 0 0] 26)) := (by repeat (first | exact Below.refl _ _ | refine Below.alloc ?_ ?_ _ | refine Below.setCell ?_ ?_ _ | refine Below.drew ?_ | refine below_drewN ?_ _ | (· simp) | omega | (· simp; omega) | exact Below.size (by assumption) | assumption | refine below_call ?_ (by assumption) ?_))
  have bR : Box4 (((w.alloc (.cells #[.bool n1, s1] 24)).alloc (.cells #[.bool n2, s2] 24)).alloc (.cells #[.bool false, .slice none 0 0, .bool false, .slice none 0 0] 26)) (w.heap.size + 1 + 1) (.bool false) (.slice none 0 0) (.bool false) (.slice none 0 0) := Box4.new _ _ _ _ _ _ (by simp)
  generalize ((w.alloc (.cells #[.bool n1, s1] 24)).alloc (.cells #[.bool n2, s2] 24)).alloc (.cells #[.bool false, .slice none 0 0, .bool false, .slice none 0 0] 26) = W0 at *
  refine (sign_any _ _ m y (HY.out.below hW0)).mono ?_
  rintro e w1 ⟨rfl, hb1⟩
  rw [cmpI_eq h0]
  have hW1 := below_call hW0 hb1 hW0.size
  replace bR := bR.keep hb1
  obtain ⟨x0, x1, x2, x3⟩ := bR.c
  have xf := bR.f
  clear hb1 h0
  go_wp2
  refine bodyPost_ret (v := .tuple #[.agg #[.bool false, .slice none 0 0, .bool false, .slice none 0 0], .int .i64 11]) ?_ rfl ⟨rfl, (((hW1.setCell (by show w.heap.size ≤ w.heap.size + 1 + 1; omega) _).setCell (by show w.heap.size ≤ w.heap.size + 1 + 1; omega) _).setCell (by show w.heap.size ≤ w.heap.size + 1 + 1; omega) _).setCell (by show w.heap.size ≤ w.heap.size + 1 + 1; omega) _⟩
  simp [results, Tryz.results12, go_sem, x0, x1, x2, x3]

/-- A quotient and no error have been told. -/
def QSay (n : Nat) (r : Rat) (w : World) (e : Ending) (w' : World) : Prop :=
  ∃ n1 a1 k1 c1 n2 a2 k2 c2, e = .returned (.tuple #[.agg #[.bool n1, .slice a1 k1 c1, .bool n2, .slice a2 k2 c2], .int .i64 0]) ∧ RIs w' 0 (.agg #[.bool n1, .slice a1 k1 c1, .bool n2, .slice a2 k2 c2]) n r ∧ Below w.heap.size w w'

set_option maxHeartbeats 1600000 in
theorem quo_any (w : World) (u v : Value) (n m : Nat) (x y : Int) (hx : Arg w u n x) (hy : Arg w v m y) (h0 : y ≠ 0) (hn : n ≤ 100000) (hm : m ≤ 100000) :
    Calls Tryz.prog 12 #[u, v] w (QSay (n + m) (Rat.divInt x y) w) := by
  have HX := hid hx
  have HY := hid hy
  have H0 := hid h0
  have hcb : (cmpI y 0 == 0) = false := by simpa using cmpI_ne h0
  obtain ⟨n1, s1, l1, rfl, -⟩ := hx
  obtain ⟨n2, s2, l2, rfl, -⟩ := hy
  go_enter Tryz.func12, Tryz.ntmps12
  go_wp2_with fail
  have hW0 : Below w.heap.size w (((w.alloc (.cells #[.bool n1, s1] 24)).alloc (.cells #[.bool n2, s2] 24)).alloc (.cells #[.bool false, .slice none 0 0, .bool false, .slice none 0 0] 26)) := (by repeat (first | exact Below.refl _ _ | refine Below.alloc ?_ ?_ _ | refine Below.setCell ?_ ?_ _ | refine Below.drew ?_ | refine below_drewN ?_ _ | (· simp) | omega | (· simp; omega) | exact Below.size (by assumption) | assumption | refine below_call ?_ (by assumption) ?_))
  have bP : Box (((w.alloc (.cells #[.bool n1, s1] 24)).alloc (.cells #[.bool n2, s2] 24)).alloc (.cells #[.bool false, .slice none 0 0, .bool false, .slice none 0 0] 26)) w.heap.size (.bool n1) s1 := ((Box.new w _ _ _ rfl).alloc _).alloc _
  have bQ : Box (((w.alloc (.cells #[.bool n1, s1] 24)).alloc (.cells #[.bool n2, s2] 24)).alloc (.cells #[.bool false, .slice none 0 0, .bool false, .slice none 0 0] 26)) (w.heap.size + 1) (.bool n2) s2 := (Box.new _ _ _ _ (by simp)).alloc _
  have bR : Box4 (((w.alloc (.cells #[.bool n1, s1] 24)).alloc (.cells #[.bool n2, s2] 24)).alloc (.cells #[.bool false, .slice none 0 0, .bool false, .slice none 0 0] 26)) (w.heap.size + 1 + 1) (.bool false) (.slice none 0 0) (.bool false) (.slice none 0 0) := Box4.new _ _ _ _ _ _ (by simp)
  generalize ((w.alloc (.cells #[.bool n1, s1] 24)).alloc (.cells #[.bool n2, s2] 24)).alloc (.cells #[.bool false, .slice none 0 0, .bool false, .slice none 0 0] 26) = W0 at *
  refine (sign_any _ _ m y (HY.out.below hW0)).mono ?_
  rintro e w1 ⟨rfl, hb1⟩
  have hW1 := below_call hW0 hb1 hW0.size
  replace bP := bP.keep hb1
  replace bQ := bQ.keep hb1
  replace bR := bR.keep hb1
  have p0 := bP.c0
  have p1 := bP.c1
  have q0 := bQ.c0
  have q1 := bQ.c1
  have lP := bP.lt
  have lQ := bQ.lt
  clear hb1 h0
  go_wp2_with fail
  refine (least_say _ _ _ n m x y (HX.out.below hW1) (HY.out.below hW1) H0.out hn hm).mono ?_
  rintro e w2 ⟨m1, b1, j1, d1, m2, b2, j2, d2, rfl, hI, hb2⟩
  have hW2 := below_call hW1 hb2 hW1.size
  replace bR := bR.keep hb2
  have HI := hid hI
  have HB := hid bR
  obtain ⟨x0, x1, x2, x3⟩ := bR.c
  have xf := bR.f
  clear hb2 hI p0 p1 q0 q1 lP lQ bP bQ
  go_wp2
  refine bodyPost_ret (v := .tuple #[.agg #[.bool m1, .slice b1 j1 d1, .bool m2, .slice b2 j2 d2], .int .i64 0]) ?_ rfl ⟨m1, b1, j1, d1, m2, b2, j2, d2, rfl, (HI.out.off4 HB.out (grow4 _ _ _ _ _ _)).mono (Nat.zero_le _) (Nat.le_refl _), below_fill4 hW2 (by omega) _ _ _ _⟩
  simp [results, Tryz.results12, go_sem, x0, x1, x2, x3]

/-- Two numbers have been told. -/
def PSay (n : Nat) (x y : Int) (w : World) (e : Ending) (w' : World) : Prop :=
  ∃ n1 a1 k1 c1 n2 a2 k2 c2, e = .returned (.agg #[.bool n1, .slice a1 k1 c1, .bool n2, .slice a2 k2 c2]) ∧ Arg w' (.agg #[.bool n1, .slice a1 k1 c1]) n x ∧ Arg w' (.agg #[.bool n2, .slice a2 k2 c2]) n y ∧ Below w.heap.size w w'

end Go.Proofs.YtogdchddmjokmaaGreatDoor

namespace Go.Proofs.YtogdchddmjokmaaGreatDoor
open Go.RowKit Lm
set_option linter.unusedSimpArgs false
set_option linter.unusedVariables false
set_option maxRecDepth 100000

/-- What fold's loop keeps. -/
def FRel (w : World) (n m : Nat) (x y x' y' : Int) (iv : Value) (wr : World) : Prop :=
  ∃ i : Nat, ∃ ns az ks cs nt at' kt ct, i ≤ 1 ∧ iv = .int .i64 (i : Int) ∧ Box4 wr (w.heap.size + 1 + 1) (.bool ns) (.slice az ks cs) (.bool nt) (.slice at' kt ct) ∧
    Box4 wr (w.heap.size + 1) (.bool false) (.slice none 0 0) (.bool false) (.slice none 0 0) ∧
    Arg wr (.agg #[.bool ns, .slice az ks cs]) (if i = 0 then n else 2 * n + 2 * m + 1) (if i = 0 then x else x * y' + x' * y) ∧
    Arg wr (.agg #[.bool nt, .slice at' kt ct]) (if i = 0 then n else 2 * n + 2 * m + 1) (if i = 0 then y else y * y') ∧ Below w.heap.size w wr

end Go.Proofs.YtogdchddmjokmaaGreatDoor
