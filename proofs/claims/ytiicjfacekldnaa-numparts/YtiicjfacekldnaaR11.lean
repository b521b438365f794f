/-
  Walks: the document's own Div, by any number but nought.
-/
import Derived.Test.YtiicjfacekldnaaR10
namespace Go.Proofs.Ytiicjfacekldnaa
open Go.RowKit Lm
set_option linter.unusedSimpArgs false
set_option linter.unusedVariables false
set_option maxRecDepth 100000

set_option maxHeartbeats 3200000 in
theorem rdiv_num (w : World) (u v : Value) (n m : Nat) (x y : Int) (hx : Arg w u n x) (hy : Arg w v m y) (h0 : y ≠ 0) (hn : n ≤ 200000) (hm : m ≤ 200000) :
    Calls Try.prog 21 #[u, v] w (DivTold w n m x y) := by
  have HX := hid hx
  have HY := hid hy
  have H0 := hid h0
  obtain ⟨n1, s1, q1, rfl, ⟨aa1, cc1, rfl, -⟩, -⟩ := hx
  obtain ⟨n2, s2, q2, rfl, ⟨aa2, cc2, rfl, -⟩, -⟩ := hy
  generalize q1.length = K1 at *
  generalize q2.length = K2 at *
  clear h0
  go_enter Try.func21, Try.ntmps21
  go_wp2_with fail
  have hW0 : Below w.heap.size w ((((w.alloc (.cells #[.bool n1, .slice aa1 K1 cc1] 24)).alloc (.cells #[.bool n2, .slice aa2 K2 cc2] 24)).alloc (.cells #[.bool false, .slice none 0 0] 24)).alloc (.cells #[.bool false, .slice none 0 0] 24)) := (by repeat (first | exact Below.refl _ _ | refine Below.alloc ?_ ?_ _ | refine Below.setCell ?_ ?_ _ | refine Below.drew ?_ | refine below_drewN ?_ _ | (· simp) | omega | (· simp; omega) | exact Below.size (by assumption) | assumption | refine below_call ?_ (by assumption) ?_))
  have bA : Box ((((w.alloc (.cells #[.bool n1, .slice aa1 K1 cc1] 24)).alloc (.cells #[.bool n2, .slice aa2 K2 cc2] 24)).alloc (.cells #[.bool false, .slice none 0 0] 24)).alloc (.cells #[.bool false, .slice none 0 0] 24)) w.heap.size (.bool n1) (.slice aa1 K1 cc1) := (((Box.new w _ _ _ rfl).alloc _).alloc _).alloc _
  have bB : Box ((((w.alloc (.cells #[.bool n1, .slice aa1 K1 cc1] 24)).alloc (.cells #[.bool n2, .slice aa2 K2 cc2] 24)).alloc (.cells #[.bool false, .slice none 0 0] 24)).alloc (.cells #[.bool false, .slice none 0 0] 24)) (w.heap.size + 1) (.bool n2) (.slice aa2 K2 cc2) := ((Box.new _ _ _ _ (by simp)).alloc _).alloc _
  have bQ : Box ((((w.alloc (.cells #[.bool n1, .slice aa1 K1 cc1] 24)).alloc (.cells #[.bool n2, .slice aa2 K2 cc2] 24)).alloc (.cells #[.bool false, .slice none 0 0] 24)).alloc (.cells #[.bool false, .slice none 0 0] 24)) (w.heap.size + 1 + 1) (.bool false) (.slice none 0 0) := (Box.new _ _ _ _ (by simp)).alloc _
  have bR : Box ((((w.alloc (.cells #[.bool n1, .slice aa1 K1 cc1] 24)).alloc (.cells #[.bool n2, .slice aa2 K2 cc2] 24)).alloc (.cells #[.bool false, .slice none 0 0] 24)).alloc (.cells #[.bool false, .slice none 0 0] 24)) (w.heap.size + 1 + 1 + 1) (.bool false) (.slice none 0 0) := Box.new _ _ _ _ (by simp)
  generalize ((((w.alloc (.cells #[.bool n1, .slice aa1 K1 cc1] 24)).alloc (.cells #[.bool n2, .slice aa2 K2 cc2] 24)).alloc (.cells #[.bool false, .slice none 0 0] 24)).alloc (.cells #[.bool false, .slice none 0 0] 24)) = W0 at *
  refine (rnorm_h w _ _ n x HX.out hW0).mono ?_
  rintro e w1 ⟨neg1, ao1, cap1, k1, l1, rfl, HK1, HC1, hb1⟩
  have hW1 := below_call hW0 hb1 hW0.size
  replace bA := bA.keep hb1
  replace bB := bB.keep hb1
  replace bQ := bQ.keep hb1
  replace bR := bR.keep hb1
  have a0 := bA.c0
  have a1 := bA.c1
  have af := bA.f
  have b0 := bB.c0
  have b1 := bB.c1
  have lA := bA.lt
  have lB := bB.lt
  have lR := bR.lt
  have U1 : Box ((w1.setCell ⟨w.heap.size, 0, none⟩ (.bool neg1)).setCell ⟨w.heap.size, 1, none⟩ (.slice ao1 k1 cap1)) w.heap.size (.bool neg1) (.slice ao1 k1 cap1) := (bA.set0 _).set1 _
  have U2 : Box ((w1.setCell ⟨w.heap.size, 0, none⟩ (.bool neg1)).setCell ⟨w.heap.size, 1, none⟩ (.slice ao1 k1 cap1)) (w.heap.size + 1) (.bool n2) (.slice aa2 K2 cc2) := (bB.other (by show w.heap.size + 1 ≠ w.heap.size; omega) _).other (by show w.heap.size + 1 ≠ w.heap.size; omega) _
  have U3 : Box ((w1.setCell ⟨w.heap.size, 0, none⟩ (.bool neg1)).setCell ⟨w.heap.size, 1, none⟩ (.slice ao1 k1 cap1)) (w.heap.size + 1 + 1) (.bool false) (.slice none 0 0) := (bQ.other (by show w.heap.size + 1 + 1 ≠ w.heap.size; omega) _).other (by show w.heap.size + 1 + 1 ≠ w.heap.size; omega) _
  have U4 : Box ((w1.setCell ⟨w.heap.size, 0, none⟩ (.bool neg1)).setCell ⟨w.heap.size, 1, none⟩ (.slice ao1 k1 cap1)) (w.heap.size + 1 + 1 + 1) (.bool false) (.slice none 0 0) := (bR.other (by show w.heap.size + 1 + 1 + 1 ≠ w.heap.size; omega) _).other (by show w.heap.size + 1 + 1 + 1 ≠ w.heap.size; omega) _
  have U5 : Below w.heap.size w ((w1.setCell ⟨w.heap.size, 0, none⟩ (.bool neg1)).setCell ⟨w.heap.size, 1, none⟩ (.slice ao1 k1 cap1)) := (hW1.setCell (by show w.heap.size ≤ w.heap.size; omega) _).setCell (by show w.heap.size ≤ w.heap.size; omega) _
  clear hb1 hW1 hW0 bA bB bQ bR
  go_wp2_with fail
  clear a0 a1 af b0 b1 lA lB lR
  generalize (w1.setCell ⟨w.heap.size, 0, none⟩ (.bool neg1)).setCell ⟨w.heap.size, 1, none⟩ (.slice ao1 k1 cap1) = W1 at *
  refine (rnorm_h w _ _ m y HY.out U5).mono ?_
  rintro e w2 ⟨neg2, ao2, cap2, k2, l2, rfl, HK2, HC2, hb2⟩
  have hW2 := below_call U5 hb2 U5.size
  replace U1 := U1.keep hb2
  replace U2 := U2.keep hb2
  replace U3 := U3.keep hb2
  replace U4 := U4.keep hb2
  have b0 := U2.c0
  have b1 := U2.c1
  have bf := U2.f
  have lB := U2.lt
  have lA := U1.lt
  have lR := U4.lt
  have HD : Hid (RDLaid w n m x y neg1 ao1 k1 cap1 l1 neg2 ao2 k2 cap2 l2 ((w2.setCell ⟨w.heap.size + 1, 0, none⟩ (.bool neg2)).setCell ⟨w.heap.size + 1, 1, none⟩ (.slice ao2 k2 cap2))) := hid
    ⟨HK1, HK2, HC1, HC2, (U1.other (by show w.heap.size ≠ w.heap.size + 1; omega) _).other (by show w.heap.size ≠ w.heap.size + 1; omega) _, (U2.set0 _).set1 _, (U3.other (by show w.heap.size + 1 + 1 ≠ w.heap.size + 1; omega) _).other (by show w.heap.size + 1 + 1 ≠ w.heap.size + 1; omega) _, (U4.other (by show w.heap.size + 1 + 1 + 1 ≠ w.heap.size + 1; omega) _).other (by show w.heap.size + 1 + 1 + 1 ≠ w.heap.size + 1; omega) _, (hW2.setCell (by show w.heap.size ≤ w.heap.size + 1; omega) _).setCell (by show w.heap.size ≤ w.heap.size + 1; omega) _⟩
  have hk2m : k2 ≤ 9223372036854775807 := by have a := HC2.2.1; have c := HK2.out; omega
  have hk0 : ¬ k2 = 0 := by
    intro h
    have h1 := HC2.2.2.2
    rw [List.eq_nil_of_length_eq_zero (HK2.out.symm.trans h)] at h1
    exact H0.out (by rw [h1]; simp [val, sgn])
  have hkb : ((k2 : Int) == 0) = false := by simp; omega
  have b1' := HD.out.2.2.2.2.2.1.c1
  have a1' := HD.out.2.2.2.2.1.c1
  have a0' := HD.out.2.2.2.2.1.c0
  have lA' := HD.out.2.2.2.2.1.lt
  have lB' := HD.out.2.2.2.2.2.1.lt
  have a1 := U1.c1
  clear HC1 HC2 HK1 HK2 hb2 hW2 U5 HX HY U2 U3 U4
  go_wp2_with fail
  clear b0 b1 bf lB lA lR a0' a1' b1' lA' lB' a1 U1
  generalize (w2.setCell ⟨w.heap.size + 1, 0, none⟩ (.bool neg2)).setCell ⟨w.heap.size + 1, 1, none⟩ (.slice ao2 k2 cap2) = W2 at *
  obtain ⟨HK1, HK2, HC1, HC2, bA, bB, bQ, bR, hW2⟩ := HD.out
  have HVP : Hid (0 < val l2) := hid (by
    rcases Nat.eq_zero_or_pos (val l2) with h | h
    · have := val_eq_zero (may_canon HC2.2.2.1) h
      rw [this] at HK2
      exact absurd HK2.out hk0
    · exact h)
  have hl1 := HC1.2.1
  have hl2 := HC2.2.1
  clear HD
  refine (rdivmod_any _ ao1 cap1 k1 l1 ao2 cap2 k2 l2 HK1.out HK2.out (HC1.1.below hW2) (HC2.1.below hW2) (may_canon HC1.2.2.1) (may_canon HC2.2.2.1) (by omega) (by omega) HVP.out).mono ?_
  rintro e w3 ⟨qo, qc, qk, Q, ro, rc, rk, R, rfl, HQK, HRK, hsQ, hsR, hcQ, hcR, hvQ, hvR, hlQ, hb3⟩
  have hW3 := below_call hW2 hb3 hW2.size
  have HQ0 : Hid (x.tdiv y = sgn (neg1 != neg2) (val Q) ∧ x.tmod y = sgn neg1 (val R)) := hid (by
    rw [HC1.2.2.2, HC2.2.2.2, hvQ, hvR]
    exact tdiv_sgn neg1 neg2 _ _ _ _ (by have := Nat.div_add_mod (val l1) (val l2); rw [Nat.mul_comm] at this; exact this.symm) (Nat.mod_lt _ HVP.out))
  have HLR := hid (len_of_mod hcR HC2.1.1 hvR HVP.out hl2)
  have HSQ := hid hsQ
  have HSR := hid hsR
  replace bA := bA.keep hb3
  replace bB := bB.keep hb3
  replace bQ := bQ.keep hb3
  replace bR := bR.keep hb3
  have lA := bA.lt
  have lB := bB.lt
  have lR := bR.lt
  clear hsQ hsR hcQ hcR hvQ hvR hb3 hW2 HC1 HC2 HK1 HK2 HVP
  have hst : Below w3.heap.size w3 w3.drew := (Below.refl _ _).drew
  go_wp2_with fail
  go_region_held3 (fun w' => w'.cell? ⟨w.heap.size, 0, none⟩ = some (.bool neg1) ∧ w'.cell? ⟨w.heap.size + 1, 0, none⟩ = some (.bool neg2)) (first | with_reducible exact ⟨(bA.keep hst).c0, (bB.keep hst).c0⟩ | with_reducible exact ⟨(((bA.keep hst).off2s (by omega) _ _).off2s (by omega) _ _).c0, (((bB.keep hst).off2s (by omega) _ _).off2s (by omega) _ _).c0⟩ | with_reducible exact ⟨((bA.keep hst).off2s (by omega) _ _).c0, ((bB.keep hst).off2s (by omega) _ _).c0⟩) (first
    | (go_at_call 70; (with_reducible refine (rmk_k _ _ qo qc qk Q HQK.out (by exact HSQ.out.below hst) (by omega)).mono ?_); rintro e w4 ⟨n4, a4, k4, c4, rfl, HI4, hb4⟩; have hsn := below_call hst hb4 hst.size; clear hst; have hst := hsn; clear hsn; have q0 := (bQ.keep hst).c0; have q1 := (bQ.keep hst).c1; have qf := (bQ.keep hst).f; have r0 := (bR.keep hst).c0; have r1 := (bR.keep hst).c1; have rf := (bR.keep hst).f; have lQ4 := (bQ.keep hst).lt; have lR4 := (bR.keep hst).lt)
    | (go_at_call 70; (with_reducible refine (rmk_k _ _ ro rc rk R HRK.out (by exact HSR.out.below hst) (by have := HLR.out; omega)).mono ?_); rintro e w5 ⟨n5, a5, k5, c5, rfl, HI5, hb5⟩; have hsn := below_call hst hb5 hst.size; clear hst; have hst := hsn; clear hsn; (try clear q0 q1 qf r0 r1 rf lQ4 lR4); have q0 := (bQ.keep hst).c0; have q1 := (bQ.keep hst).c1; have qf := (bQ.keep hst).f; have r0 := (bR.keep hst).c0; have r1 := (bR.keep hst).c1; have rf := (bR.keep hst).f; have lQ4 := (bQ.keep hst).lt; have lR4 := (bR.keep hst).lt))
  have hz4 := hb4.size
  have hz5 := hb5.size
  have hWn := below_call hW3 hst hW3.size
  have J4 := hid (HI4.out.below hb5)
  have J5 := hid HI5.out
  have lw3 : w.heap.size + 1 + 1 + 1 < w3.heap.size := lR
  clear hb4 hb5 hst HI4 HI5 bA bB bQ bR
  simp only [dsize] at hz4
  go_wp2
  refine bodyPost_ret (v := .tuple #[.agg #[.bool n4, .slice a4 k4 c4], .agg #[.bool n5, .slice a5 k5 c5], .int .i64 0]) ?_ rfl ⟨n4, a4, k4, c4, n5, a5, k5, c5, rfl, ?_, ?_, (((hWn.setCell (by show w.heap.size ≤ w.heap.size + 1 + 1; omega) _).setCell (by show w.heap.size ≤ w.heap.size + 1 + 1; omega) _).setCell (by show w.heap.size ≤ w.heap.size + 1 + 1 + 1; omega) _).setCell (by show w.heap.size ≤ w.heap.size + 1 + 1 + 1; omega) _⟩
  · simp [results, Try.results21, go_sem, q0, q1, r0, r1]
  · have h := ((((J4.out.setCell (p := ⟨w.heap.size + 1 + 1, 0, none⟩) (by show w.heap.size + 1 + 1 < _; simp only [dsize]; omega) (.bool n4)).setCell (p := ⟨w.heap.size + 1 + 1, 1, none⟩) (by show w.heap.size + 1 + 1 < _; simp only [dsize]; omega) (.slice a4 k4 c4)).setCell (p := ⟨w.heap.size + 1 + 1 + 1, 0, none⟩) (by show w.heap.size + 1 + 1 + 1 < _; simp only [dsize]; omega) (.bool n5)).setCell (p := ⟨w.heap.size + 1 + 1 + 1, 1, none⟩) (by show w.heap.size + 1 + 1 + 1 < _; simp only [dsize]; omega) (.slice a5 k5 c5)).mono (lo' := w.heap.size) (n' := n) (by simp only [dsize]; omega) (by omega)
    rw [HQ0.out.1]
    have e : (neg1 != neg2) = (!neg1 == neg2) := by cases neg1 <;> cases neg2 <;> rfl
    first | exact h | (rw [e]; exact h)
  · have h := ((((J5.out.setCell (p := ⟨w.heap.size + 1 + 1, 0, none⟩) (by show w.heap.size + 1 + 1 < _; omega) (.bool n4)).setCell (p := ⟨w.heap.size + 1 + 1, 1, none⟩) (by show w.heap.size + 1 + 1 < _; omega) (.slice a4 k4 c4)).setCell (p := ⟨w.heap.size + 1 + 1 + 1, 0, none⟩) (by show w.heap.size + 1 + 1 + 1 < _; omega) (.bool n5)).setCell (p := ⟨w.heap.size + 1 + 1 + 1, 1, none⟩) (by show w.heap.size + 1 + 1 + 1 < _; omega) (.slice a5 k5 c5)).mono (lo' := w.heap.size) (n' := n + m) (by omega) (by have := HLR.out; omega)
    rw [HQ0.out.2]
    exact h

end Go.Proofs.Ytiicjfacekldnaa
