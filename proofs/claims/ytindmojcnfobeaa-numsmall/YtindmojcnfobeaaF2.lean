/-
  Walks: the law NumSmall.
-/
import Derived.Test.YtindmojcnfobeaaW17
import Derived.Test.YtindmojcnfobeaaW18
namespace Go.Proofs.Ytindmojcnfobeaa
open Go.RowKit Lm
set_option linter.unusedSimpArgs false
set_option linter.unusedVariables false

theorem tdiv_bound (x y : Int) (hx1 : -2147483648 ≤ x) (hx2 : x ≤ 2147483647) (hy : y ≠ 0) : -2147483648 ≤ x.tdiv y ∧ x.tdiv y ≤ 2147483648 ∧ -2147483648 ≤ x.tmod y ∧ x.tmod y ≤ 2147483648 := by
  have h1 : (x.tdiv y).natAbs ≤ x.natAbs := by
    rw [Int.natAbs_tdiv]; exact Nat.div_le_self _ _
  have h2 : (x.tmod y).natAbs ≤ x.natAbs := by
    rw [Int.natAbs_tmod]; exact Nat.mod_le _ _
  omega
theorem mul_bound_i (x y : Int) (hx1 : -2147483648 ≤ x) (hx2 : x ≤ 2147483647) (hy1 : -2147483648 ≤ y) (hy2 : y ≤ 2147483647) : -4611686018427387904 ≤ x * y ∧ x * y ≤ 4611686018427387904 := by
  have h : (x * y).natAbs ≤ 2147483648 * 2147483648 := by
    rw [Int.natAbs_mul]; exact Nat.mul_le_mul (by omega) (by omega)
  omega

set_option maxHeartbeats 3200000 in
theorem numSmall_any (w : World) (x y : Int) (hx1 : -2147483648 ≤ x) (hx2 : x ≤ 2147483647) (hy1 : -2147483648 ≤ y) (hy2 : y ≤ 2147483647) :
    Calls Try.prog 10 #[.int .i32 x, .int .i32 y] w fun e w' => e = .returned (.bool true) ∧ Below w.heap.size w w' := by
  obtain ⟨hm1, hm2⟩ := mul_bound_i x y hx1 hx2 hy1 hy2
  by_cases hy0 : y = 0
  · have hy0b : (y == 0) = true := by simpa using hy0
    have HY0 := hid hy0
    clear hy0
    have hW0 : Below w.heap.size w w := Below.refl _ _
    go_enter Try.func10, Try.ntmps10
    go_wp2_with fail
    refine (of_num _ x (by omega) (by omega)).mono ?_
    rintro e u1 ⟨n1, a1, k1, c1, rfl, I1, hb1⟩
    have hW0n := below_call hW0 hb1 hW0.size
    clear hW0 hb1
    have hW1 := hW0n
    clear hW0n
    go_wp2_with fail
    refine (of_num _ y (by omega) (by omega)).mono ?_
    rintro e u2 ⟨n2, a2, k2, c2, rfl, I2, hb2⟩
    replace I1 := I1.below hb2
    have hW1n := below_call hW1 hb2 hW1.size
    clear hW1 hb2
    have hW2 := hW1n
    clear hW1n
    go_wp2_with fail
    refine (add_num _ _ _ 2 2 x y (by exact I1.arg) (by exact I2.arg) (by omega) (by omega)).mono ?_
    rintro e u3 ⟨n3, a3, k3, c3, rfl, I3, hb3⟩
    have hW2n := below_call hW2 hb3 hW2.size
    clear hW2 hb3 I1 I2
    have hW3 := hW2n
    clear hW2n
    go_wp2_with fail
    refine (to_num _ _ (2 + 2 + 1) (x + y) (by exact I3.arg)).mono ?_
    rintro e u4 ⟨rfl, hb4⟩
    rw [toV_yes (z := x + y) (by omega) (by omega)]
    have hW3n := below_call hW3 hb4 hW3.size
    clear hW3 hb4 I3
    have hW4 := hW3n
    clear hW3n
    go_wp2_with fail
    refine (of_num _ x (by omega) (by omega)).mono ?_
    rintro e u5 ⟨n5, a5, k5, c5, rfl, I1, hb5⟩
    have hW4n := below_call hW4 hb5 hW4.size
    clear hW4 hb5
    have hW5 := hW4n
    clear hW4n
    go_wp2_with fail
    refine (of_num _ y (by omega) (by omega)).mono ?_
    rintro e u6 ⟨n6, a6, k6, c6, rfl, I2, hb6⟩
    replace I1 := I1.below hb6
    have hW5n := below_call hW5 hb6 hW5.size
    clear hW5 hb6
    have hW6 := hW5n
    clear hW5n
    go_wp2_with fail
    refine (sub_num _ _ _ 2 2 x y (by exact I1.arg) (by exact I2.arg) (by omega) (by omega)).mono ?_
    rintro e u7 ⟨n7, a7, k7, c7, rfl, I3, hb7⟩
    have hW6n := below_call hW6 hb7 hW6.size
    clear hW6 hb7 I1 I2
    have hW7 := hW6n
    clear hW6n
    go_wp2_with fail
    refine (to_num _ _ (2 + 2 + 1) (x - y) (by exact I3.arg)).mono ?_
    rintro e u8 ⟨rfl, hb8⟩
    rw [toV_yes (z := x - y) (by omega) (by omega)]
    have hW7n := below_call hW7 hb8 hW7.size
    clear hW7 hb8 I3
    have hW8 := hW7n
    clear hW7n
    go_wp2_with fail
    refine (of_num _ x (by omega) (by omega)).mono ?_
    rintro e u9 ⟨n9, a9, k9, c9, rfl, I1, hb9⟩
    have hW8n := below_call hW8 hb9 hW8.size
    clear hW8 hb9
    have hW9 := hW8n
    clear hW8n
    go_wp2_with fail
    refine (of_num _ y (by omega) (by omega)).mono ?_
    rintro e u10 ⟨n10, a10, k10, c10, rfl, I2, hb10⟩
    replace I1 := I1.below hb10
    have hW9n := below_call hW9 hb10 hW9.size
    clear hW9 hb10
    have hW10 := hW9n
    clear hW9n
    go_wp2_with fail
    refine (mul_num _ _ _ 2 2 x y (by exact I1.arg) (by exact I2.arg) (by omega) (by omega)).mono ?_
    rintro e u11 ⟨n11, a11, k11, c11, rfl, I3, hb11⟩
    have hW10n := below_call hW10 hb11 hW10.size
    clear hW10 hb11 I1 I2
    have hW11 := hW10n
    clear hW10n
    go_wp2_with fail
    refine (to_num _ _ (2 + 2) (x * y) (by exact I3.arg)).mono ?_
    rintro e u12 ⟨rfl, hb12⟩
    rw [toV_yes (z := x * y) (by omega) (by omega)]
    have hW11n := below_call hW11 hb12 hW11.size
    clear hW11 hb12 I3
    have hW12 := hW11n
    clear hW11n
    go_wp2_with fail
    refine (of_num _ x (by omega) (by omega)).mono ?_
    rintro e u13 ⟨n13, a13, k13, c13, rfl, I1, hb13⟩
    have hW12n := below_call hW12 hb13 hW12.size
    clear hW12 hb13
    have hW13 := hW12n
    clear hW12n
    go_wp2_with fail
    refine (of_num _ y (by omega) (by omega)).mono ?_
    rintro e u14 ⟨n14, a14, k14, c14, rfl, I2, hb14⟩
    replace I1 := I1.below hb14
    have hW13n := below_call hW13 hb14 hW13.size
    clear hW13 hb14
    have hW14 := hW13n
    clear hW13n
    go_wp2_with fail
    refine (div_zero _ _ _ 2 2 x y (by exact I1.arg) (by exact I2.arg) HY0.out).mono ?_
    rintro e u15 ⟨rfl, hb15⟩
    have hW14n := below_call hW14 hb15 hW14.size
    clear hW14 hb15 I1 I2
    have hW15 := hW14n
    clear hW14n
    clear hm1 hm2
    go_wp2_with fail
    refine (num_any _ 1).mono ?_
    rintro e v1 ⟨rfl, rfl⟩
    go_wp2_with fail
    refine (awake_any _).mono ?_
    rintro e v2 ⟨rfl, hbz⟩
    have hsz := hW15.size
    go_wp2
    go_ret
    exact ⟨rfl, (by repeat (first | exact Below.refl _ _ | refine Below.alloc ?_ ?_ _ | refine Below.setCell ?_ ?_ _ | refine Below.drew ?_ | refine below_drewN ?_ _ | (· simp) | omega | (· simp; omega) | exact Below.size (by assumption) | assumption | refine below_call ?_ (by assumption) ?_))⟩
  · have hy0b : (y == 0) = false := by simpa using hy0
    obtain ⟨hq1, hq2, hr1, hr2⟩ := tdiv_bound x y hx1 hx2 hy0
    have hW0 : Below w.heap.size w w := Below.refl _ _
    go_enter Try.func10, Try.ntmps10
    go_wp2_with fail
    refine (of_num _ x (by omega) (by omega)).mono ?_
    rintro e u1 ⟨n1, a1, k1, c1, rfl, I1, hb1⟩
    have hW0n := below_call hW0 hb1 hW0.size
    clear hW0 hb1
    have hW1 := hW0n
    clear hW0n
    go_wp2_with fail
    refine (of_num _ y (by omega) (by omega)).mono ?_
    rintro e u2 ⟨n2, a2, k2, c2, rfl, I2, hb2⟩
    replace I1 := I1.below hb2
    have hW1n := below_call hW1 hb2 hW1.size
    clear hW1 hb2
    have hW2 := hW1n
    clear hW1n
    go_wp2_with fail
    refine (add_num _ _ _ 2 2 x y (by exact I1.arg) (by exact I2.arg) (by omega) (by omega)).mono ?_
    rintro e u3 ⟨n3, a3, k3, c3, rfl, I3, hb3⟩
    have hW2n := below_call hW2 hb3 hW2.size
    clear hW2 hb3 I1 I2
    have hW3 := hW2n
    clear hW2n
    go_wp2_with fail
    refine (to_num _ _ (2 + 2 + 1) (x + y) (by exact I3.arg)).mono ?_
    rintro e u4 ⟨rfl, hb4⟩
    rw [toV_yes (z := x + y) (by omega) (by omega)]
    have hW3n := below_call hW3 hb4 hW3.size
    clear hW3 hb4 I3
    have hW4 := hW3n
    clear hW3n
    go_wp2_with fail
    refine (of_num _ x (by omega) (by omega)).mono ?_
    rintro e u5 ⟨n5, a5, k5, c5, rfl, I1, hb5⟩
    have hW4n := below_call hW4 hb5 hW4.size
    clear hW4 hb5
    have hW5 := hW4n
    clear hW4n
    go_wp2_with fail
    refine (of_num _ y (by omega) (by omega)).mono ?_
    rintro e u6 ⟨n6, a6, k6, c6, rfl, I2, hb6⟩
    replace I1 := I1.below hb6
    have hW5n := below_call hW5 hb6 hW5.size
    clear hW5 hb6
    have hW6 := hW5n
    clear hW5n
    go_wp2_with fail
    refine (sub_num _ _ _ 2 2 x y (by exact I1.arg) (by exact I2.arg) (by omega) (by omega)).mono ?_
    rintro e u7 ⟨n7, a7, k7, c7, rfl, I3, hb7⟩
    have hW6n := below_call hW6 hb7 hW6.size
    clear hW6 hb7 I1 I2
    have hW7 := hW6n
    clear hW6n
    go_wp2_with fail
    refine (to_num _ _ (2 + 2 + 1) (x - y) (by exact I3.arg)).mono ?_
    rintro e u8 ⟨rfl, hb8⟩
    rw [toV_yes (z := x - y) (by omega) (by omega)]
    have hW7n := below_call hW7 hb8 hW7.size
    clear hW7 hb8 I3
    have hW8 := hW7n
    clear hW7n
    go_wp2_with fail
    refine (of_num _ x (by omega) (by omega)).mono ?_
    rintro e u9 ⟨n9, a9, k9, c9, rfl, I1, hb9⟩
    have hW8n := below_call hW8 hb9 hW8.size
    clear hW8 hb9
    have hW9 := hW8n
    clear hW8n
    go_wp2_with fail
    refine (of_num _ y (by omega) (by omega)).mono ?_
    rintro e u10 ⟨n10, a10, k10, c10, rfl, I2, hb10⟩
    replace I1 := I1.below hb10
    have hW9n := below_call hW9 hb10 hW9.size
    clear hW9 hb10
    have hW10 := hW9n
    clear hW9n
    go_wp2_with fail
    refine (mul_num _ _ _ 2 2 x y (by exact I1.arg) (by exact I2.arg) (by omega) (by omega)).mono ?_
    rintro e u11 ⟨n11, a11, k11, c11, rfl, I3, hb11⟩
    have hW10n := below_call hW10 hb11 hW10.size
    clear hW10 hb11 I1 I2
    have hW11 := hW10n
    clear hW10n
    go_wp2_with fail
    refine (to_num _ _ (2 + 2) (x * y) (by exact I3.arg)).mono ?_
    rintro e u12 ⟨rfl, hb12⟩
    rw [toV_yes (z := x * y) (by omega) (by omega)]
    have hW11n := below_call hW11 hb12 hW11.size
    clear hW11 hb12 I3
    have hW12 := hW11n
    clear hW11n
    go_wp2_with fail
    refine (of_num _ x (by omega) (by omega)).mono ?_
    rintro e u13 ⟨n13, a13, k13, c13, rfl, I1, hb13⟩
    have hW12n := below_call hW12 hb13 hW12.size
    clear hW12 hb13
    have hW13 := hW12n
    clear hW12n
    go_wp2_with fail
    refine (of_num _ y (by omega) (by omega)).mono ?_
    rintro e u14 ⟨n14, a14, k14, c14, rfl, I2, hb14⟩
    replace I1 := I1.below hb14
    have hW13n := below_call hW13 hb14 hW13.size
    clear hW13 hb14
    have hW14 := hW13n
    clear hW13n
    go_wp2_with fail
    refine (div_num 1000000 1 divSaid_one _ _ _ 2 2 x y (by exact I1.arg) (by exact I2.arg) hy0 (by omega) (by simp [pw]; omega)).mono ?_
    rintro e u15 ⟨nq, aq, kq, cq, nr, ar, kr, cr, rfl, IQ, IR, hb15⟩
    have hW14n := below_call hW14 hb15 hW14.size
    clear hW14 hb15 I1 I2
    have hW15 := hW14n
    clear hW14n
    go_wp2_with fail
    have bq : Box ((u15.alloc (.cells #[.bool nq, .slice aq kq cq] 24)).alloc (.cells #[.bool nr, .slice ar kr cr] 24)) (u15.heap.size + 1) (.bool nr) (.slice ar kr cr) := Box.new _ _ _ _ (by simp)
    have hWa : Below w.heap.size w ((u15.alloc (.cells #[.bool nq, .slice aq kq cq] 24)).alloc (.cells #[.bool nr, .slice ar kr cr] 24)) := (hW15.alloc hW15.size _).alloc (by simp; have := hW15.size; omega) _
    have IQ2 := (IQ.alloc (.cells #[.bool nq, .slice aq kq cq] 24)).alloc (.cells #[.bool nr, .slice ar kr cr] 24)
    have IR2 := (IR.alloc (.cells #[.bool nq, .slice aq kq cq] 24)).alloc (.cells #[.bool nr, .slice ar kr cr] 24)
    clear IQ IR
    refine (to_num _ _ 2 (x.tdiv y) (by exact IQ2.arg)).mono ?_
    rintro e v1 ⟨rfl, hv1⟩
    rw [toV_yes (z := x.tdiv y) (by omega) (by omega)]
    have bq1 := bq.keep hv1
    have IR3 := IR2.below hv1
    have hWb := below_call hWa hv1 hWa.size
    have r0 := bq1.c0
    have r1 := bq1.c1
    clear bq hv1 IQ2 IR2 hWa
    go_wp2_with fail
    refine (to_num _ _ (2 + 2) (x.tmod y) (by exact IR3.arg)).mono ?_
    rintro e v2 ⟨rfl, hv2⟩
    rw [toV_yes (z := x.tmod y) (by omega) (by omega)]
    have hWc := below_call hWb hv2 hWb.size
    clear r0 r1 bq1 hv2 IR3 hWb
    go_wp2_with fail
    refine (num_any _ 0).mono ?_
    rintro e v3 ⟨rfl, rfl⟩
    go_wp2_with fail
    refine (awake_any _).mono ?_
    rintro e v4 ⟨rfl, hbz⟩
    go_wp2
    go_ret
    exact ⟨rfl, below_call hWc hbz hWc.size⟩

end Go.Proofs.Ytindmojcnfobeaa
