/-
  Walks: Add, Sub.
-/
import Derived.Test.YtalblhcfkfockaaW16
namespace Go.Proofs.Ytalblhcfkfockaa
open Go.RowKit Lm
set_option linter.unusedSimpArgs false
set_option linter.unusedVariables false
set_option maxRecDepth 100000

set_option maxHeartbeats 3200000 in
theorem add_num (w : World) (u v : Value) (n m : Nat) (x y : Int) (hx : Arg w u n x) (hy : Arg w v m y) (hn : n ≤ 1000000) (hm : m ≤ 1000000) :
    Calls Try.prog 101 #[u, v] w (Told w.heap.size (n + m + 1) (x + y) w) := by
  have HX := hid hx
  have HY := hid hy
  obtain ⟨n1, s1, l1, rfl, -⟩ := hx
  obtain ⟨n2, s2, l2, rfl, -⟩ := hy
  go_enter Try.func101, Try.ntmps101
  go_wp2
  go_cut [] (fun wc => ∃ neg1 ao1 cap1 l1 neg2 ao2 cap2 l2, Boxed2 w (w.heap.size + 3) n m x y wc neg1 ao1 cap1 l1 neg2 ao2 cap2 l2)
  case first =>
    go_region_with (first | (go_at_call_of 63 (Value.agg #[Value.bool n1, s1]); refine (counted_h w _ _ n x HX.out ?_).mono ?_; (exact (by repeat (first | exact Below.refl _ _ | refine Below.alloc ?_ ?_ _ | refine Below.setCell ?_ ?_ _ | refine Below.drew ?_ | refine below_drewN ?_ _ | (· simp) | omega | (· simp; omega) | exact Below.size (by assumption) | assumption | refine below_call ?_ (by assumption) ?_))); rintro e w1 ⟨neg1, ao1, cap1, k1, l1, rfl, HK1, HC1, hb1⟩; obtain ⟨hc1, hf1⟩ := bcell hb1; simp only [asize, dsize] at hc1 hf1) | (go_at_call_of 63 (Value.agg #[Value.bool n2, s2]); refine (counted_h w _ _ m y HY.out ?_).mono ?_; (exact (by repeat (first | exact Below.refl _ _ | refine Below.alloc ?_ ?_ _ | refine Below.setCell ?_ ?_ _ | refine Below.drew ?_ | refine below_drewN ?_ _ | (· simp) | omega | (· simp; omega) | exact Below.size (by assumption) | assumption | refine below_call ?_ (by assumption) ?_))); rintro e w2 ⟨neg2, ao2, cap2, k2, l2, rfl, HK2, HC2, hb2⟩; have hW2 := below_call hb1 hb2 hb1.size; obtain ⟨hc2, hf2⟩ := bcell hW2; simp only [asize, dsize] at hc2 hf2))
    all_goals (go_wp2_with fail; go_meet; exact ⟨neg1, ao1, cap1, _, neg2, ao2, cap2, _, boxed2_mk HK1 HC1 HK2 HC2 (laid3 w n1 s1 n2 s2).1 (laid3 w n1 s1 n2 s2).2.1 (laid3 w n1 s1 n2 s2).2.2.1 (laid3 w n1 s1 n2 s2).2.2.2.1 (laid3 w n1 s1 n2 s2).2.2.2.2 (below_undrew hW2)⟩)
  case rest =>
    obtain ⟨neg1, ao1, cap1, l1, neg2, ao2, cap2, l2, HB⟩ := hcut
    have HB' := hid HB
    have a0 := HB.b1.c0
    have a1 := HB.b1.c1
    have b0 := HB.b2.c0
    have b1 := HB.b2.c1
    have hln := HB.c1.2.1
    have hlm := HB.c2.2.1
    have hsz := HB.sz
    clear HB
    go_wp2_with fail
    refine (addSigned_any _ neg1 ao1 cap1 l1 neg2 ao2 cap2 l2 (by exact HB'.out.c1.1.below HB'.out.bl) (by exact HB'.out.c2.1.below HB'.out.bl) (may_canon HB'.out.c1.2.2.1) (may_canon HB'.out.c2.2.2.1) (by omega) (by omega)).mono ?_
    rintro e w3 ⟨nr, ar, kr, cr, rfl, hI, hb3⟩
    have HI := hid hI
    have HZ : Hid (x + y = sgn neg1 (val l1) + sgn (neg2) (val l2)) := hid (by rw [HB'.out.c1.2.2.2, HB'.out.c2.2.2.2])
    have hW3 := below_call HB'.out.bl hb3 HB'.out.bl.size
    have bx := (HB'.out.rs (w.heap.size + 1 + 1) (by omega) (by omega)).keep hb3
    have x0 := bx.c0
    have x1 := bx.c1
    have xf := bx.f
    clear hI bx hb3 a0 a1 b0 b1
    go_wp2
    refine bodyPost_ret (v := .agg #[.bool nr, .slice ar kr cr]) ?_ rfl ⟨nr, ar, kr, cr, rfl, ?_, (by repeat (first | exact Below.refl _ _ | refine Below.alloc ?_ ?_ _ | refine Below.setCell ?_ ?_ _ | refine Below.drew ?_ | refine below_drewN ?_ _ | (· simp) | omega | (· simp; omega) | exact Below.size (by assumption) | assumption | refine below_call ?_ (by assumption) ?_))⟩
    · simp [results, Try.results101, go_sem, x0, x1]
    · rw [HZ.out]
      exact ((HI.out.setCell (by show w.heap.size + 1 + 1 < _; omega) _).setCell (by show w.heap.size + 1 + 1 < _; omega) _).mono (by omega) (by omega)

end Go.Proofs.Ytalblhcfkfockaa
