/-
  Walks: Gcd.
-/
import Derived.Test.YtalblhcfkfockaaW25
namespace Go.Proofs.Ytalblhcfkfockaa
open Go.RowKit Lm
set_option linter.unusedSimpArgs false
set_option linter.unusedVariables false
set_option maxRecDepth 100000

@[go_sem] theorem field_L (w : World) (a b : Value) : Sem.run Try.prog (Instr.field 27 (.agg #[a, b]) 1) w = .ok b w := by
  simp [Instr.field, go_sem, part, asAgg, isAgg]
@[go_sem] theorem field_Neg (w : World) (a b : Value) : Sem.run Try.prog (Instr.field 27 (.agg #[a, b]) 0) w = .ok a w := by
  simp [Instr.field, go_sem, part, asAgg, isAgg]
theorem sgn_nat (neg : Bool) (n : Nat) : (sgn neg n).natAbs = n := sgn_abs neg n

set_option maxHeartbeats 3200000 in
theorem gcd_num (w : World) (u v : Value) (n m : Nat) (x y : Int) (hx : Arg w u n x) (hy : Arg w v m y) (hn : n ≤ 400000) (hm : m ≤ 400000) :
    Calls Try.prog 83 #[u, v] w (Told w.heap.size (n + m + 2) ((Nat.gcd x.natAbs y.natAbs : Nat) : Int) w) := by
  have HX := hid hx
  have HY := hid hy
  obtain ⟨n1, s1, l1, rfl, -⟩ := hx
  obtain ⟨n2, s2, l2, rfl, -⟩ := hy
  go_enter Try.func83, Try.ntmps83
  go_wp2
  have hl := laid3 w n1 s1 n2 s2
  unfold Laid3 at hl
  generalize ((w.alloc (.cells #[.bool n1, s1] 27)).alloc (.cells #[.bool n2, s2] 27)).alloc (.cells #[.bool false, .slice none 0 0] 27) = W at *
  obtain ⟨hsz, b1, b2, b3, hbl⟩ := hl
  have a0 := b1.c0
  have a1 := b1.c1
  have c0 := b2.c0
  have c1 := b2.c1
  have HB1 := hid b1
  have HB2 := hid b2
  have HB3 := hid (b3 (w.heap.size + 1 + 1) (by omega) (by omega))
  clear b1 b2 b3
  go_region_held3 (fun w' => (w'.cell? ⟨w.heap.size, 0, none⟩ = some (.bool n1) ∧ w'.cell? ⟨w.heap.size, 1, none⟩ = some s1 ∧ w'.cell? ⟨w.heap.size + 1, 0, none⟩ = some (.bool n2) ∧ w'.cell? ⟨w.heap.size + 1, 1, none⟩ = some s2)) (refine ⟨?_, ?_, ?_, ?_⟩ <;> repeat (first | with_reducible exact a0 | with_reducible exact a1 | with_reducible exact c0 | with_reducible exact c1 | with_reducible refine cell_far ?_ ?_ | with_reducible refine cell_drew ?_ | (· simp) | (· simp; omega))) (first
    | (go_at_call_of 63 (Value.agg #[Value.bool n1, s1]); go_must (refine (counted_h w _ _ n x HX.out (by exact hbl.drew)).mono ?_); rintro e w1 ⟨neg1, ao1, cap1, k1, l1, rfl, HK1, HC1, hb1⟩; have bb1 := HB1.out.drew.keep hb1; have bb2 := HB2.out.drew.keep hb1; have bb3 := HB3.out.drew.keep hb1; have hW1 := below_call hbl.drew hb1 (by rw [dsize]; omega); have hz1 := hb1.size; simp only [dsize] at hz1; clear a0 a1 c0 c1; have a0 := bb1.c0; have a1 := bb1.c1; have c0 := bb2.c0; have c1 := bb2.c1; have HB11 := hid bb1; have HB21 := hid bb2; have HB31 := hid bb3; clear bb1 bb2 bb3 hb1)
    | (go_at_call_of 63 (Value.agg #[Value.bool n2, s2]); go_must (refine (counted_h w _ _ m y HY.out (by exact hW1)).mono ?_); rintro e w2 ⟨neg2, ao2, cap2, k2, l2, rfl, HK2, HC2, hb2⟩; have bb1 := HB11.out.keep hb2; have bb2 := HB21.out.keep hb2; have bb3 := HB31.out.keep hb2; have hW2 := below_call hW1 hb2 (by omega); have hz2 := hb2.size; clear a0 a1 c0 c1; have a0 := bb1.c0; have a1 := bb1.c1; have c0 := bb2.c0; have c1 := bb2.c1; have HB12 := hid bb1; have HB22 := hid bb2; have HB32 := hid bb3; clear bb1 bb2 bb3 hb2)
    | (go_at_call 98; go_must (refine (gcdLimbs_any _ ao1 cap1 k1 l1 ao2 cap2 k2 l2 HK1.out HK2.out (by exact HC1.1.below hW2) (by exact HC2.1.below hW2) (may_canon HC1.2.2.1) (may_canon HC2.2.2.1) (n + m) (by omega) (by have := HC1.2.1; omega) (by have := HC2.2.1; omega)).mono ?_); rintro e w3 ⟨g, cap, k, l, rfl, HK, hs, hg, hl, hv, hb3⟩; have HV := hid hv; have bb1 := HB12.out.keep hb3; have bb2 := HB22.out.keep hb3; have bb3 := HB32.out.keep hb3; have hW3 := below_call hW2 hb3 (by omega); have hz3 := hb3.size; clear a0 a1 c0 c1; have a0 := bb1.c0; have a1 := bb1.c1; have c0 := bb2.c0; have c1 := bb2.c1; have HB13 := hid bb1; have HB23 := hid bb2; have HB33 := hid bb3; clear bb1 bb2 bb3 hb3 hv)
    | (go_at_call 65; go_must (refine (made_k _ (w.heap.size + 3) _ _ cap k l HK.out (by exact hs) (from_row _ _ _ (by omega))).mono ?_); rintro e w4 ⟨nr, ar, kr, cr, rfl, HI, hb4⟩; have bb1 := HB13.out.keep hb4; have bb2 := HB23.out.keep hb4; have bb3 := HB33.out.keep hb4; have hW4 := below_call hW3 hb4 (by omega); clear a0 a1 c0 c1; have a0 := bb1.c0; have a1 := bb1.c1; have c0 := bb2.c0; have c1 := bb2.c1; have x0 := bb3.c0; have x1 := bb3.c1; have xf := bb3.f; clear bb1 bb2 bb3 hb4))
  have HZ : Hid (((Nat.gcd x.natAbs y.natAbs : Nat) : Int) = sgn false (val l)) := hid (by rw [HV.out, HC1.2.2.2, HC2.2.2.2, sgn_abs, sgn_abs]; simp [sgn])
  have hl1 := HC1.2.1
  have hl2 := HC2.2.1
  clear a0 a1 c0 c1 hs
  go_wp2
  refine bodyPost_ret (v := .agg #[.bool nr, .slice ar kr cr]) ?_ rfl ⟨nr, ar, kr, cr, rfl, ?_, (by repeat (first | exact Below.refl _ _ | refine Below.alloc ?_ ?_ _ | refine Below.setCell ?_ ?_ _ | refine Below.drew ?_ | refine below_drewN ?_ _ | (· simp) | omega | (· simp; omega) | exact Below.size (by assumption) | assumption | refine below_call ?_ (by assumption) ?_))⟩
  · simp [results, Try.results83, go_sem, x0, x1]
  · rw [HZ.out]
    exact ((HI.out.setCell (by show w.heap.size + 1 + 1 < _; omega) _).setCell (by show w.heap.size + 1 + 1 < _; omega) _).mono (by omega) (by omega)

/-- Div, by any number but nought. -/
theorem div_any (w : World) (u v : Value) (n m : Nat) (x y : Int) (hx : Arg w u n x) (hy : Arg w v m y) (hy0 : y ≠ 0) (hn : n ≤ 400000) (hm : m ≤ 400000) :
    Calls Try.prog 103 #[u, v] w (DivTold w n m x y) := by
  refine div_num 999999 999999 divSaid_all w u v n m x y hx hy hy0 (by omega) ?_
  obtain ⟨neg, sv, l, _, ⟨ao, cap, _, hs⟩, hl, hz⟩ := hy
  have h1 := val_lt hs.1
  have h2 := pw_mono (show l.length ≤ 999999 by omega)
  have h3 : y.natAbs ≤ val l := by
    rw [hz]; unfold mean
    split
    · rw [sgn_abs]; exact Nat.le_refl _
    · simp
  omega

end Go.Proofs.Ytalblhcfkfockaa
