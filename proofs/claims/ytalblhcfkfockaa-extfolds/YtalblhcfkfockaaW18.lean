/-
  Walks: Mul.
-/
import Derived.Test.YtalblhcfkfockaaW16
namespace Go.Proofs.Ytalblhcfkfockaa
open Go.RowKit Lm
set_option linter.unusedSimpArgs false
set_option linter.unusedVariables false
set_option maxRecDepth 100000

set_option maxHeartbeats 3200000 in
theorem mul_num (w : World) (u v : Value) (n m : Nat) (x y : Int) (hx : Arg w u n x) (hy : Arg w v m y) (hn : n ≤ 500000) (hm : m ≤ 500000) :
    Calls Try.prog 46 #[u, v] w (Told w.heap.size (n + m) (x * y) w) := by
  have HX := hid hx
  have HY := hid hy
  obtain ⟨n1, s1, l1, rfl, -⟩ := hx
  obtain ⟨n2, s2, l2, rfl, -⟩ := hy
  go_enter Try.func46, Try.ntmps46
  go_wp2
  go_cut [] (fun wc => ∃ neg1 ao1 cap1 l1 neg2 ao2 cap2 l2, Boxed2 w (w.heap.size + 3) n m x y wc neg1 ao1 cap1 l1 neg2 ao2 cap2 l2)
  case first =>
    go_region_with (first | (go_at_call_of 63 (Value.agg #[Value.bool n1, s1]); refine (counted_h w _ _ n x HX.out ?_).mono ?_; (exact (by repeat (first | exact Below.refl _ _ | refine Below.alloc ?_ ?_ _ | refine Below.setCell ?_ ?_ _ | refine Below.drew ?_ | refine below_drewN ?_ _ | (· simp) | omega | (· simp; omega) | exact Below.size (by assumption) | assumption | refine below_call ?_ (by assumption) ?_))); rintro e w1 ⟨neg1, ao1, cap1, k1, l1, rfl, HK1, HC1, hb1⟩; obtain ⟨hc1, hf1⟩ := bcell hb1; simp only [asize, dsize] at hc1 hf1) | (go_at_call_of 63 (Value.agg #[Value.bool n2, s2]); refine (counted_h w _ _ m y HY.out ?_).mono ?_; (exact (by repeat (first | exact Below.refl _ _ | refine Below.alloc ?_ ?_ _ | refine Below.setCell ?_ ?_ _ | refine Below.drew ?_ | refine below_drewN ?_ _ | (· simp) | omega | (· simp; omega) | exact Below.size (by assumption) | assumption | refine below_call ?_ (by assumption) ?_))); rintro e w2 ⟨neg2, ao2, cap2, k2, l2, rfl, HK2, HC2, hb2⟩; have hW2 := below_call hb1 hb2 hb1.size; obtain ⟨hc2, hf2⟩ := bcell hW2; simp only [asize, dsize] at hc2 hf2))
    all_goals (go_wp2_with fail; go_meet; exact ⟨neg1, ao1, cap1, _, neg2, ao2, cap2, _, boxed2_mk HK1 HC1 HK2 HC2 (laid3 w n1 s1 n2 s2).1 (laid3 w n1 s1 n2 s2).2.1 (laid3 w n1 s1 n2 s2).2.2.1 (laid3 w n1 s1 n2 s2).2.2.2.1 (laid3 w n1 s1 n2 s2).2.2.2.2 (below_undrew hW2)⟩)
  case rest =>
    obtain ⟨neg1, ao1, cap1, l1, neg2, ao2, cap2, l2, HB⟩ := hcut
    have HB' := hid HB
    have a0 := HB.b1.c0
    have a1 := HB.b1.c1
    have b0 := HB.b2.c0
    have b1 := HB.b2.c1
    have hln := HB.c1.2.1
    have hlm := HB.c2.2.1
    have hsz := HB.sz
    have hbl := HB.bl
    clear HB
    have bx := HB'.out.rs (w.heap.size + 1 + 1) (by omega) (by omega)
    have HBX := hid bx
    have HB1 := hid HB'.out.b1
    have HB2 := hid HB'.out.b2
    clear bx
    go_wp2_with fail
    go_region_held3 (fun w' => (w'.cell? ⟨w.heap.size, 0, none⟩ = some (.bool neg1) ∧ w'.cell? ⟨w.heap.size, 1, none⟩ = some (.slice ao1 l1.length cap1) ∧ w'.cell? ⟨w.heap.size + 1, 0, none⟩ = some (.bool neg2) ∧ w'.cell? ⟨w.heap.size + 1, 1, none⟩ = some (.slice ao2 l2.length cap2))) (refine ⟨?_, ?_, ?_, ?_⟩ <;> repeat (first | with_reducible exact a40 | with_reducible exact a41 | with_reducible exact b40 | with_reducible exact b41 | with_reducible exact a30 | with_reducible exact a31 | with_reducible exact b30 | with_reducible exact b31 | with_reducible refine cell_far ?_ ?_ | with_reducible refine cell_drew ?_ | with_reducible exact a0 | with_reducible exact a1 | with_reducible exact b0 | with_reducible exact b1 | (· simp) | (· simp; omega))) (first
      | (go_at_call 66; go_must (refine (mulLimbs_any _ ao1 cap1 l1 ao2 cap2 l2 (by exact (HB'.out.c1.1.below HB'.out.bl).drew) (by exact (HB'.out.c2.1.below HB'.out.bl).drew) (by omega) (by omega)).mono ?_); rintro e w3 ⟨g, cap, k, l, rfl, HK, hs, hg, hl, hv, hb3⟩; have HV := hid hv; have bb1 := HB1.out.drew.keep hb3; have bb2 := HB2.out.drew.keep hb3; have HBX3 := hid (HBX.out.drew.keep hb3); have HB13 := hid bb1; have HB23 := hid bb2; have a30 := bb1.c0; have a31 := bb1.c1; have b30 := bb2.c0; have b31 := bb2.c1; have hz3 := hb3.size; simp only [dsize] at hz3 hg; clear bb1 bb2 hv)
      | (go_at_call 65; go_must (refine (made_k _ (w.heap.size + 3) _ _ cap k l HK.out (by exact hs) (from_row _ _ _ (by omega))).mono ?_); rintro e w4 ⟨nr, ar, kr, cr, rfl, HI, hb4⟩; have bb1 := HB13.out.keep hb4; have bb2 := HB23.out.keep hb4; have bb3 := HBX3.out.keep hb4; have a40 := bb1.c0; have a41 := bb1.c1; have b40 := bb2.c0; have b41 := bb2.c1; have x0 := bb3.c0; have x1 := bb3.c1; have xf := bb3.f; clear bb1 bb2 bb3))
    have HZ : Hid (x * y = sgn (!neg1 == neg2) (val l)) := hid (by rw [HB'.out.c1.2.2.2, HB'.out.c2.2.2.2, HV.out]; cases neg1 <;> cases neg2 <;> simp [sgn, Int.neg_mul, Int.mul_neg])
    have hW4 : Below w.heap.size w w4 := below_call (below_call hbl.drew hb3 (by rw [dsize]; exact hbl.size)) hb4 (by omega)
    clear hb3 hb4 a30 a31 b30 b31 a40 a41 b40 b41 a0 a1 b0 b1
    go_wp2
    refine bodyPost_ret (v := .agg #[.bool nr, .slice ar kr cr]) ?_ rfl ⟨nr, ar, kr, cr, rfl, ?_, (by repeat (first | exact Below.refl _ _ | refine Below.alloc ?_ ?_ _ | refine Below.setCell ?_ ?_ _ | refine Below.drew ?_ | refine below_drewN ?_ _ | (· simp) | omega | (· simp; omega) | exact Below.size (by assumption) | assumption | refine below_call ?_ (by assumption) ?_))⟩
    · simp [results, Try.results46, go_sem, x0, x1]
    · rw [HZ.out]
      exact ((HI.out.setCell (by show w.heap.size + 1 + 1 < _; omega) _).setCell (by show w.heap.size + 1 + 1 < _; omega) _).mono (by omega) (by omega)

end Go.Proofs.Ytalblhcfkfockaa
