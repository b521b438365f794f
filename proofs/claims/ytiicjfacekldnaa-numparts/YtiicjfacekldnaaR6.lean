/-
  Walks: the document's own Add.
-/
import Derived.Test.YtiicjfacekldnaaR5
namespace Go.Proofs.Ytiicjfacekldnaa
open Go.RowKit Lm
set_option linter.unusedSimpArgs false
set_option linter.unusedVariables false
set_option maxRecDepth 100000

theorem sgn_same (neg : Bool) (a b : Nat) : sgn neg a + sgn neg b = sgn neg (a + b) := by cases neg <;> simp [sgn] <;> omega
theorem sgn_less (n1 n2 : Bool) (a b : Nat) (h : n1 ≠ n2) (hv : b ≤ a) : sgn n1 a + sgn n2 b = sgn n1 (a - b) := by cases n1 <;> cases n2 <;> simp [sgn] at h ⊢ <;> omega

set_option maxHeartbeats 6400000 in
theorem radd_num (w : World) (u v : Value) (n m : Nat) (x y : Int) (hx : Arg w u n x) (hy : Arg w v m y) (hn : n ≤ 400000) (hm : m ≤ 400000) :
    Calls Try.prog 93 #[u, v] w (Told w.heap.size (n + m + 1) (x + y) w) := by
  have HX := hid hx
  have HY := hid hy
  obtain ⟨n1, s1, l1, rfl, -⟩ := hx
  obtain ⟨n2, s2, l2, rfl, -⟩ := hy
  go_enter Try.func93, Try.ntmps93
  go_wp2_with fail
  refine (rnorm_h w _ _ n x HX.out (by repeat (first | exact Below.refl _ _ | refine Below.alloc ?_ ?_ _ | refine Below.setCell ?_ ?_ _ | refine Below.drew ?_ | refine below_drewN ?_ _ | (· simp) | omega | (· simp; omega) | exact Below.size (by assumption) | assumption | refine below_call ?_ (by assumption) ?_))).mono ?_
  rintro e w1 ⟨neg1, ao1, cap1, k1, l1, rfl, HK1, HC1, hb1⟩
  have b1 := (laid3 w n1 s1 n2 s2).2.1.keep hb1
  have b2 := (laid3 w n1 s1 n2 s2).2.2.1.keep hb1
  have b3 := ((laid3 w n1 s1 n2 s2).2.2.2.1 (w.heap.size + 1 + 1) (by omega) (by omega)).keep hb1
  have x0 := b1.c0
  have x1 := b1.c1
  have xf := b1.f
  have y0 := b2.c0
  have y1 := b2.c1
  have B1 : Box ((w1.setCell ⟨w.heap.size, 0, none⟩ (.bool neg1)).setCell ⟨w.heap.size, 1, none⟩ (.slice ao1 k1 cap1)) w.heap.size (.bool neg1) (.slice ao1 k1 cap1) := (b1.set0 _).set1 _
  have B2 : Box ((w1.setCell ⟨w.heap.size, 0, none⟩ (.bool neg1)).setCell ⟨w.heap.size, 1, none⟩ (.slice ao1 k1 cap1)) (w.heap.size + 1) (.bool n2) s2 := (b2.other (by simp) _).other (by simp) _
  have B3 : Box ((w1.setCell ⟨w.heap.size, 0, none⟩ (.bool neg1)).setCell ⟨w.heap.size, 1, none⟩ (.slice ao1 k1 cap1)) (w.heap.size + 1 + 1) (.bool false) (.slice none 0 0) := (b3.other (by simp; omega) _).other (by simp; omega) _
  have hW1 : Below w.heap.size w ((w1.setCell ⟨w.heap.size, 0, none⟩ (.bool neg1)).setCell ⟨w.heap.size, 1, none⟩ (.slice ao1 k1 cap1)) := (by repeat (first | exact Below.refl _ _ | refine Below.alloc ?_ ?_ _ | refine Below.setCell ?_ ?_ _ | refine Below.drew ?_ | refine below_drewN ?_ _ | (· simp) | omega | (· simp; omega) | exact Below.size (by assumption) | assumption | refine below_call ?_ (by assumption) ?_))
  clear b1 b2 b3 hb1
  go_wp2_with fail
  clear x0 x1 xf y0 y1
  generalize ((w1.setCell ⟨w.heap.size, 0, none⟩ (.bool neg1)).setCell ⟨w.heap.size, 1, none⟩ (.slice ao1 k1 cap1)) = v1 at *
  refine (rnorm_h w _ _ m y HY.out hW1).mono ?_
  rintro e w2 ⟨neg2, ao2, cap2, k2, l2, rfl, HK2, HC2, hb2⟩
  have b1 := B1.keep hb2
  have b2 := B2.keep hb2
  have b3 := B3.keep hb2
  have hW2 := below_call hW1 hb2 hW1.size
  have x0 := b1.c0
  have x1 := b1.c1
  have y0 := b2.c0
  have y1 := b2.c1
  have yf := b2.f
  clear B1 B2 B3 hb2 hW1
  have B1 : Box ((w2.setCell ⟨w.heap.size + 1, 0, none⟩ (.bool neg2)).setCell ⟨w.heap.size + 1, 1, none⟩ (.slice ao2 k2 cap2)) w.heap.size (.bool neg1) (.slice ao1 k1 cap1) := (b1.other (by simp) _).other (by simp) _
  have B2 : Box ((w2.setCell ⟨w.heap.size + 1, 0, none⟩ (.bool neg2)).setCell ⟨w.heap.size + 1, 1, none⟩ (.slice ao2 k2 cap2)) (w.heap.size + 1) (.bool neg2) (.slice ao2 k2 cap2) := (b2.set0 _).set1 _
  have B3 : Box ((w2.setCell ⟨w.heap.size + 1, 0, none⟩ (.bool neg2)).setCell ⟨w.heap.size + 1, 1, none⟩ (.slice ao2 k2 cap2)) (w.heap.size + 1 + 1) (.bool false) (.slice none 0 0) := (b3.other (by simp) _).other (by simp) _
  have hW3 : Below w.heap.size w ((w2.setCell ⟨w.heap.size + 1, 0, none⟩ (.bool neg2)).setCell ⟨w.heap.size + 1, 1, none⟩ (.slice ao2 k2 cap2)) := (hW2.setCell (by simp) _).setCell (by simp) _
  clear b1 b2 b3 hW2
  by_cases hnn : neg1 = neg2
  · have hnb : (neg1 == neg2) = true := by simpa using hnn
    have HNN := hid hnn
    clear hnn
    go_wp2_with fail
    clear x0 x1 y0 y1 yf
    generalize ((w2.setCell ⟨w.heap.size + 1, 0, none⟩ (.bool neg2)).setCell ⟨w.heap.size + 1, 1, none⟩ (.slice ao2 k2 cap2)) = v2 at *
    have bl := B3.lt
    have HB1 := hid B1
    have HB2 := hid B2
    have HB3 := hid B3
    have a0 := B1.c0
    have a1 := B1.c1
    have b0 := B2.c0
    have b1 := B2.c1
    have hl1 := HC1.2.1
    have hl2 := HC2.2.1
    clear B1 B2 B3
    go_region_held3 (fun w' => (w'.cell? ⟨w.heap.size, 0, none⟩ = some (.bool neg1) ∧ w'.cell? ⟨w.heap.size, 1, none⟩ = some (.slice ao1 k1 cap1) ∧ w'.cell? ⟨w.heap.size + 1, 0, none⟩ = some (.bool neg2) ∧ w'.cell? ⟨w.heap.size + 1, 1, none⟩ = some (.slice ao2 k2 cap2))) (refine ⟨?_, ?_, ?_, ?_⟩ <;> repeat (first | with_reducible exact a40 | with_reducible exact a41 | with_reducible exact b40 | with_reducible exact b41 | with_reducible exact a30 | with_reducible exact a31 | with_reducible exact b30 | with_reducible exact b31 | with_reducible refine cell_far ?_ ?_ | with_reducible refine cell_drew ?_ | with_reducible exact a0 | with_reducible exact a1 | with_reducible exact b0 | with_reducible exact b1 | (· simp) | (· simp; omega))) (first
      | (go_at_call 117; go_must (refine (radd_k _ ao1 cap1 k1 l1 ao2 cap2 k2 l2 HK1.out HK2.out (by exact (HC1.1.below hW3).drew) (by exact (HC2.1.below hW3).drew) (by omega) (by omega)).mono ?_); rintro e w3 ⟨ar3, cr3, kr3, l3, rfl, HK3, hs3, hf3, hcn3, hl3, hv3, hb3⟩; have HV3 := hid hv3; have bb1 := HB1.out.drew.keep hb3; have bb2 := HB2.out.drew.keep hb3; have HBX3 := hid (HB3.out.drew.keep hb3); have HB13 := hid bb1; have HB23 := hid bb2; have a30 := bb1.c0; have a31 := bb1.c1; have b30 := bb2.c0; have b31 := bb2.c1; have hz3 := hb3.size; simp only [dsize] at hz3; clear bb1 bb2 hv3 hcn3)
      | (go_at_call 70; go_must (refine (rmk_k _ _ _ cr3 kr3 l3 HK3.out (by exact hs3) (by omega)).mono ?_); rintro e w4 ⟨nr, ar, kr, cr, rfl, HI, hb4⟩; have bb1 := HB13.out.keep hb4; have bb2 := HB23.out.keep hb4; have bb3 := HBX3.out.keep hb4; have a40 := bb1.c0; have a41 := bb1.c1; have b40 := bb2.c0; have b41 := bb2.c1; have x0 := bb3.c0; have x1 := bb3.c1; have xf := bb3.f; clear bb1 bb2 bb3))
    have HZ : Hid (x + y = sgn neg1 (val l3)) := hid (by rw [HC1.2.2.2, HC2.2.2.2, HV3.out]; rw [← HNN.out]; exact sgn_same _ _ _)
    have hW4 : Below w.heap.size w w4 := below_call (below_call hW3.drew hb3 (by rw [dsize]; exact hW3.size)) hb4 (by omega)
    clear hb3 hb4 a30 a31 b30 b31 a40 a41 b40 b41 a0 a1 b0 b1
    go_wp2
    refine bodyPost_ret (v := .agg #[.bool nr, .slice ar kr cr]) ?_ rfl ⟨nr, ar, kr, cr, rfl, ?_, (by repeat (first | exact Below.refl _ _ | refine Below.alloc ?_ ?_ _ | refine Below.setCell ?_ ?_ _ | refine Below.drew ?_ | refine below_drewN ?_ _ | (· simp) | omega | (· simp; omega) | exact Below.size (by assumption) | assumption | refine below_call ?_ (by assumption) ?_))⟩
    · simp [results, Try.results93, go_sem, x0, x1]
    · rw [HZ.out]
      exact ((HI.out.setCell (by show w.heap.size + 1 + 1 < _; omega) _).setCell (by show w.heap.size + 1 + 1 < _; omega) _).mono (by omega) (by omega)
  · have hnb : (neg1 == neg2) = false := by simpa using hnn
    have HNN := hid hnn
    clear hnn
    go_wp2_with fail
    clear x0 x1 y0 y1 yf
    generalize ((w2.setCell ⟨w.heap.size + 1, 0, none⟩ (.bool neg2)).setCell ⟨w.heap.size + 1, 1, none⟩ (.slice ao2 k2 cap2)) = v2 at *
    refine (rcmp_k _ ao1 cap1 k1 l1 ao2 cap2 k2 l2 HK1.out HK2.out (by exact HC1.1.below hW3) (by exact HC2.1.below hW3) (may_canon HC1.2.2.1) (may_canon HC2.2.2.1)).mono ?_
    rintro e v3 ⟨rfl, hb9⟩
    have B1' := B1.keep hb9
    have B2' := B2.keep hb9
    have B3' := B3.keep hb9
    have hW3' := below_call hW3 hb9 hW3.size
    clear B1 B2 B3 hW3 hb9
    have B1 := B1'
    have B2 := B2'
    have B3 := B3'
    have hW3 := hW3'
    clear B1' B2' B3' hW3'
    by_cases hv : val l2 ≤ val l1
    · have hq : 0 ≤ cmpI (val l1 : Int) (val l2 : Int) := by unfold cmpI; rw [if_neg (by omega)]; split <;> omega
      have HVV := hid hv
      obtain ⟨q, hqe⟩ : ∃ q, q = cmpI (val l1 : Int) (val l2 : Int) := ⟨_, rfl⟩
      rw [← hqe] at hq ⊢
      have x0 := B1.c0
      have x1 := B1.c1
      have y0 := B2.c0
      have y1 := B2.c1
      by_cases hA0 : 0 < l1.length
      · have HA0 := hid hA0
        clear hv hqe hA0
        go_wp2_with fail
        clear x0 x1 y0 y1
        have bl := B3.lt
        have HB1 := hid B1
        have HB2 := hid B2
        have HB3 := hid B3
        have a0 := B1.c0
        have a1 := B1.c1
        have b0 := B2.c0
        have b1 := B2.c1
        have hl1 := HC1.2.1
        have hl2 := HC2.2.1
        clear B1 B2 B3
        go_region_held3 (fun w' => (w'.cell? ⟨w.heap.size, 0, none⟩ = some (.bool neg1) ∧ w'.cell? ⟨w.heap.size, 1, none⟩ = some (.slice ao1 k1 cap1) ∧ w'.cell? ⟨w.heap.size + 1, 0, none⟩ = some (.bool neg2) ∧ w'.cell? ⟨w.heap.size + 1, 1, none⟩ = some (.slice ao2 k2 cap2))) (refine ⟨?_, ?_, ?_, ?_⟩ <;> repeat (first | with_reducible exact a40 | with_reducible exact a41 | with_reducible exact b40 | with_reducible exact b41 | with_reducible exact a30 | with_reducible exact a31 | with_reducible exact b30 | with_reducible exact b31 | with_reducible refine cell_far ?_ ?_ | with_reducible refine cell_drew ?_ | with_reducible exact a0 | with_reducible exact a1 | with_reducible exact b0 | with_reducible exact b1 | (· simp) | (· simp; omega))) (first
          | (go_at_call 110; go_must (refine (rsub_k _ ao1 cap1 k1 l1 ao2 cap2 k2 l2 HK1.out HK2.out (by exact (HC1.1.below hW3).drew) (by exact (HC2.1.below hW3).drew) (by omega) (len_le_of_val HC1.1.1 (may_canon HC2.2.2.1) HVV.out) HVV.out HA0.out).mono ?_); rintro e w3 ⟨ar3, cr3, kr3, l3, rfl, HK3, hs3, hf3, hcn3, hl3, hv3, hb3⟩; have HV3 := hid hv3; have bb1 := HB1.out.drew.keep hb3; have bb2 := HB2.out.drew.keep hb3; have HBX3 := hid (HB3.out.drew.keep hb3); have HB13 := hid bb1; have HB23 := hid bb2; have a30 := bb1.c0; have a31 := bb1.c1; have b30 := bb2.c0; have b31 := bb2.c1; have hz3 := hb3.size; simp only [dsize] at hz3; clear bb1 bb2 hv3 hcn3)
          | (go_at_call 70; go_must (refine (rmk_k _ _ _ cr3 kr3 l3 HK3.out (by exact hs3) (by omega)).mono ?_); rintro e w4 ⟨nr, ar, kr, cr, rfl, HI, hb4⟩; have bb1 := HB13.out.keep hb4; have bb2 := HB23.out.keep hb4; have bb3 := HBX3.out.keep hb4; have a40 := bb1.c0; have a41 := bb1.c1; have b40 := bb2.c0; have b41 := bb2.c1; have x0 := bb3.c0; have x1 := bb3.c1; have xf := bb3.f; clear bb1 bb2 bb3))
        have HZ : Hid (x + y = sgn neg1 (val l3)) := hid (by rw [HC1.2.2.2, HC2.2.2.2, HV3.out]; exact sgn_less _ _ _ _ HNN.out HVV.out)
        have hW4 : Below w.heap.size w w4 := below_call (below_call hW3.drew hb3 (by rw [dsize]; exact hW3.size)) hb4 (by omega)
        clear hb3 hb4 a30 a31 b30 b31 a40 a41 b40 b41 a0 a1 b0 b1
        go_wp2
        refine bodyPost_ret (v := .agg #[.bool nr, .slice ar kr cr]) ?_ rfl ⟨nr, ar, kr, cr, rfl, ?_, (by repeat (first | exact Below.refl _ _ | refine Below.alloc ?_ ?_ _ | refine Below.setCell ?_ ?_ _ | refine Below.drew ?_ | refine below_drewN ?_ _ | (· simp) | omega | (· simp; omega) | exact Below.size (by assumption) | assumption | refine below_call ?_ (by assumption) ?_))⟩
        · simp [results, Try.results93, go_sem, x0, x1]
        · rw [HZ.out]
          exact ((HI.out.setCell (by show w.heap.size + 1 + 1 < _; omega) _).setCell (by show w.heap.size + 1 + 1 < _; omega) _).mono (by omega) (by omega)
      · exfalso
        have e1 : l1 = [] := List.eq_nil_of_length_eq_zero (by omega)
        have v1 : val l1 = 0 := by rw [e1]; rfl
        have e2 : l2 = [] := val_eq_zero (may_canon HC2.2.2.1) (by omega)
        have m1 := HC1.2.2.1
        have m2 := HC2.2.2.1
        rw [e1] at m1
        rw [e2] at m2
        simp [mayB] at m1 m2
        exact HNN.out (by rw [m1, m2])
    · have hq : cmpI (val l1 : Int) (val l2 : Int) = -1 := cmpI_lt (by omega)
      rw [hq]
      have HVV : Hid (val l1 ≤ val l2) := hid (by omega)
      have HA0 : Hid (0 < l2.length) := hid (by
        rcases Nat.eq_zero_or_pos l2.length with h0 | h0
        · have : val l2 = 0 := by rw [List.eq_nil_of_length_eq_zero h0]; rfl
          omega
        · exact h0)
      have x0 := B1.c0
      have x1 := B1.c1
      have y0 := B2.c0
      have y1 := B2.c1
      clear hv hq
      go_wp2_with fail
      clear x0 x1 y0 y1
      have bl := B3.lt
      have HB1 := hid B1
      have HB2 := hid B2
      have HB3 := hid B3
      have a0 := B1.c0
      have a1 := B1.c1
      have b0 := B2.c0
      have b1 := B2.c1
      have hl1 := HC1.2.1
      have hl2 := HC2.2.1
      clear B1 B2 B3
      go_region_held3 (fun w' => (w'.cell? ⟨w.heap.size, 0, none⟩ = some (.bool neg1) ∧ w'.cell? ⟨w.heap.size, 1, none⟩ = some (.slice ao1 k1 cap1) ∧ w'.cell? ⟨w.heap.size + 1, 0, none⟩ = some (.bool neg2) ∧ w'.cell? ⟨w.heap.size + 1, 1, none⟩ = some (.slice ao2 k2 cap2))) (refine ⟨?_, ?_, ?_, ?_⟩ <;> repeat (first | with_reducible exact a40 | with_reducible exact a41 | with_reducible exact b40 | with_reducible exact b41 | with_reducible exact a30 | with_reducible exact a31 | with_reducible exact b30 | with_reducible exact b31 | with_reducible refine cell_far ?_ ?_ | with_reducible refine cell_drew ?_ | with_reducible exact a0 | with_reducible exact a1 | with_reducible exact b0 | with_reducible exact b1 | (· simp) | (· simp; omega))) (first
        | (go_at_call 110; go_must (refine (rsub_k _ ao2 cap2 k2 l2 ao1 cap1 k1 l1 HK2.out HK1.out (by exact (HC2.1.below hW3).drew) (by exact (HC1.1.below hW3).drew) (by omega) (len_le_of_val HC2.1.1 (may_canon HC1.2.2.1) HVV.out) HVV.out HA0.out).mono ?_); rintro e w3 ⟨ar3, cr3, kr3, l3, rfl, HK3, hs3, hf3, hcn3, hl3, hv3, hb3⟩; have HV3 := hid hv3; have bb1 := HB1.out.drew.keep hb3; have bb2 := HB2.out.drew.keep hb3; have HBX3 := hid (HB3.out.drew.keep hb3); have HB13 := hid bb1; have HB23 := hid bb2; have a30 := bb1.c0; have a31 := bb1.c1; have b30 := bb2.c0; have b31 := bb2.c1; have hz3 := hb3.size; simp only [dsize] at hz3; clear bb1 bb2 hv3 hcn3)
        | (go_at_call 70; go_must (refine (rmk_k _ _ _ cr3 kr3 l3 HK3.out (by exact hs3) (by omega)).mono ?_); rintro e w4 ⟨nr, ar, kr, cr, rfl, HI, hb4⟩; have bb1 := HB13.out.keep hb4; have bb2 := HB23.out.keep hb4; have bb3 := HBX3.out.keep hb4; have a40 := bb1.c0; have a41 := bb1.c1; have b40 := bb2.c0; have b41 := bb2.c1; have x0 := bb3.c0; have x1 := bb3.c1; have xf := bb3.f; clear bb1 bb2 bb3))
      have HZ : Hid (x + y = sgn neg2 (val l3)) := hid (by rw [HC1.2.2.2, HC2.2.2.2, HV3.out]; rw [Int.add_comm]; exact sgn_less _ _ _ _ (fun h => HNN.out h.symm) HVV.out)
      have hW4 : Below w.heap.size w w4 := below_call (below_call hW3.drew hb3 (by rw [dsize]; exact hW3.size)) hb4 (by omega)
      clear hb3 hb4 a30 a31 b30 b31 a40 a41 b40 b41 a0 a1 b0 b1
      go_wp2
      refine bodyPost_ret (v := .agg #[.bool nr, .slice ar kr cr]) ?_ rfl ⟨nr, ar, kr, cr, rfl, ?_, (by repeat (first | exact Below.refl _ _ | refine Below.alloc ?_ ?_ _ | refine Below.setCell ?_ ?_ _ | refine Below.drew ?_ | refine below_drewN ?_ _ | (· simp) | omega | (· simp; omega) | exact Below.size (by assumption) | assumption | refine below_call ?_ (by assumption) ?_))⟩
      · simp [results, Try.results93, go_sem, x0, x1]
      · rw [HZ.out]
        exact ((HI.out.setCell (by show w.heap.size + 1 + 1 < _; omega) _).setCell (by show w.heap.size + 1 + 1 < _; omega) _).mono (by omega) (by omega)

end Go.Proofs.Ytiicjfacekldnaa
