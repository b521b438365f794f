/-
  Walks: the document's own Gcd and Div.
-/
import Derived.Test.YtiicjfacekldnaaR9
import Derived.Test.YtiicjfacekldnaaEnv2
namespace Go.Proofs.Ytiicjfacekldnaa
open Go.RowKit Lm
set_option linter.unusedSimpArgs false
set_option linter.unusedVariables false
set_option maxRecDepth 100000

/-- What stands at the head of a round of the document's Gcd. -/
def RGRel (w : World) (N G m : Nat) (xv yv : Value) (wr : World) : Prop :=
  ∃ ao1 ca1 ka1 l1 bo1 cb1 kb1 l2, xv = .slice ao1 ka1 ca1 ∧ yv = .slice bo1 kb1 cb1 ∧ Hid (ka1 = l1.length) ∧ Hid (kb1 = l2.length) ∧ m = val l2 ∧ SlAt wr ao1 ca1 l1 ∧ SlAt wr bo1 cb1 l2 ∧ canon l1 ∧ canon l2 ∧ l1.length ≤ N ∧ l2.length ≤ N ∧ Hid (Nat.gcd (val l1) (val l2) = G) ∧
    Box wr (w.heap.size + 1 + 1) (.bool false) (.slice none 0 0) ∧ Below w.heap.size w wr

theorem len_of_mod {R B : List Nat} {a N : Nat} (cR : canon R) (oB : ok B) (h : val R = a % val B) (hB : 0 < val B) (hN : B.length ≤ N) : R.length ≤ N := by
  have h1 := Nat.mod_lt a hB
  by_cases hl : R.length ≤ B.length
  · omega
  · have := val_len_lt oB cR (by omega)
    omega

set_option maxHeartbeats 3200000 in
theorem rgcd_num (w : World) (u v : Value) (n m : Nat) (x y : Int) (hx : Arg w u n x) (hy : Arg w v m y) (hn : n ≤ 200000) (hm : m ≤ 200000) :
    Calls Try.prog 25 #[u, v] w (Told w.heap.size (n + m) ((Nat.gcd x.natAbs y.natAbs : Nat) : Int) w) := by
  have HX := hid hx
  have HY := hid hy
  obtain ⟨n1, s1, l1, rfl, -⟩ := hx
  obtain ⟨n2, s2, l2, rfl, -⟩ := hy
  go_enter Try.func25, Try.ntmps25
  go_wp2
  have hl := laid3 w n1 s1 n2 s2
  unfold Laid3 at hl
  generalize ((w.alloc (.cells #[.bool n1, s1] 24)).alloc (.cells #[.bool n2, s2] 24)).alloc (.cells #[.bool false, .slice none 0 0] 24) = W at *
  obtain ⟨hsz, b1, b2, b3, hbl⟩ := hl
  have HB1 := hid b1
  have HB2 := hid b2
  have HB3 := hid (b3 (w.heap.size + 1 + 1) (by omega) (by omega))
  clear b1 b2 b3
  have hW := hbl.drew
  have hst : Below W.heap.size W W.drew := (Below.refl _ _).drew
  go_region_held3 (fun w' => (w'.cell? ⟨w.heap.size, 0, none⟩ = some (.bool n1) ∧ w'.cell? ⟨w.heap.size, 1, none⟩ = some s1 ∧ w'.cell? ⟨w.heap.size + 1, 0, none⟩ = some (.bool n2) ∧ w'.cell? ⟨w.heap.size + 1, 1, none⟩ = some s2)) (exact keep2 (HB1.out.keep hst) (HB2.out.keep hst)) (first
    | (go_at_call_of 68 (Value.agg #[Value.bool n1, s1]); go_must (refine (rnorm_h w _ _ n x HX.out (by exact hW)).mono ?_); rintro e w1 ⟨neg1, ao1, cap1, k1, l1, rfl, HK1, HC1, hb1⟩; have hWn := below_call hW hb1 hW.size; have hsn := below_call hst hb1 hst.size; clear hW hst hb1; have hW := hWn; have hst := hsn; clear hWn hsn)
    | (go_at_call_of 68 (Value.agg #[Value.bool n2, s2]); go_must (refine (rnorm_h w _ _ m y HY.out (by exact hW)).mono ?_); rintro e w2 ⟨neg2, ao2, cap2, k2, l2, rfl, HK2, HC2, hb2⟩; have hWn := below_call hW hb2 hW.size; have hsn := below_call hst hb2 hst.size; clear hW hst hb2; have hW := hWn; have hst := hsn; clear hWn hsn))
  have HBR := hid (HB3.out.keep hst)
  have HG : Hid (Nat.gcd (val l1) (val l2) = Nat.gcd x.natAbs y.natAbs) := hid (by rw [HC1.2.2.2, HC2.2.2.2, sgn_abs, sgn_abs])
  have hl1 := HC1.2.1
  have hl2 := HC2.2.1
  have HS1 := hid (HC1.1.below hW)
  have HS2 := hid (HC2.1.below hW)
  have HM1 := hid (may_canon HC1.2.2.1)
  have HM2 := hid (may_canon HC2.2.2.1)
  have HWW := hid hW
  clear HC1 HC2 HB1 HB2 HB3 hst hW HX HY
  go_wp2
  go_loopg [5, 6] (val l2) (fun q xv yv wr => RGRel w (n + m) (Nat.gcd x.natAbs y.natAbs) q xv yv wr)
  case atStart => exact ⟨ao1, cap1, k1, l1, ao2, cap2, k2, l2, rfl, rfl, HK1, HK2, rfl, HS1.out, HS2.out, HM1.out, HM2.out, by omega, by omega, HG, HBR.out, HWW.out⟩
  case round =>
    clear HK1 HK2 HS1 HS2 HM1 HM2 HG HBR HWW
    obtain ⟨a1, e1, j1, r1, a2, e2, j2, r2, rfl, rfl, HJ1, HJ2, hgk, h1, h2, hc1, hc2, hr1, hr2, HG, bR, hbw⟩ := hrel
    have HGK := hid hgk
    have hj1 : j1 ≤ 9223372036854775807 := by have a := h1.2.1; have b := h1.2.2.1; have c := HJ1.out; unfold maxLen at b; omega
    have hj2 : j2 ≤ 9223372036854775807 := by have a := h2.2.1; have b := h2.2.2.1; have c := HJ2.out; unfold maxLen at b; omega
    have HC1 := hid hc1
    have HC2 := hid hc2
    clear hgk hc1 hc2
    by_cases hk0 : j2 = 0
    · have HF : Hid (((Nat.gcd x.natAbs y.natAbs : Nat) : Int) = sgn false (val r1)) := hid (by
        rw [← HG.out, List.eq_nil_of_length_eq_zero (HJ2.out.symm.trans hk0)]
        simp [val, sgn])
      rw [hk0]
      clear hj2
      go_wp2_with fail
      refine (rmk_k _ false a1 e1 j1 r1 HJ1.out h1 (by omega)).mono ?_
      rintro e w3 ⟨n3, a3, k3, c3, rfl, HI, hb3⟩
      have hz := bR.lt
      have bR3 := bR.keep hb3
      have hW3 := below_call hbw hb3 hbw.size
      have x0 := bR3.c0
      have x1 := bR3.c1
      have xf := bR3.f
      clear hb3
      go_wp2
      refine bodyPost_ret (v := .agg #[.bool n3, .slice a3 k3 c3]) ?_ rfl ⟨n3, a3, k3, c3, rfl, ?_, (hW3.setCell (by show w.heap.size ≤ w.heap.size + 1 + 1; omega) _).setCell (by show w.heap.size ≤ w.heap.size + 1 + 1; omega) _⟩
      · simp [results, Try.results25, go_sem, x0, x1]
      · rw [HF.out]
        exact ((HI.out.setCell (by show w.heap.size + 1 + 1 < _; omega) _).setCell (by show w.heap.size + 1 + 1 < _; omega) _).mono (by omega) (by omega)
    · have hkp : (0 : Int) < (j2 : Int) := by omega
      have HVP : Hid (0 < val r2) := hid (by
        rcases Nat.eq_zero_or_pos (val r2) with h | h
        · have := val_eq_zero HC2.out h
          rw [this] at HJ2
          exact absurd HJ2.out hk0
        · exact h)
      go_wp2_with fail
      refine (rdivmod_any _ a1 e1 j1 r1 a2 e2 j2 r2 HJ1.out HJ2.out h1 h2 HC1.out HC2.out (by omega) (by omega) HVP.out).mono ?_
      rintro e w3 ⟨qo, qc, qk, Q, ro, rc, rk, R, rfl, HQK, HRK, hsQ, hsR, hcQ, hcR, hvQ, hvR, hlQ, hb3⟩
      have hW3 := below_call hbw hb3 hbw.size
      have bR3 := bR.keep hb3
      have HREL : Hid (RGRel w (n + m) (Nat.gcd x.natAbs y.natAbs) (val R) (.slice a2 j2 e2) (.slice ro rk rc) w3) := hid
        ⟨a2, e2, j2, r2, ro, rc, rk, R, rfl, rfl, HJ2, HRK, rfl, h2.below hb3, hsR, HC2.out, hcR, hr2, len_of_mod hcR h2.1 hvR HVP.out hr2, by rw [Hid, hvR, Nat.gcd_comm, ← Nat.gcd_rec, Nat.gcd_comm]; exact HG.out, bR3, hW3⟩
      have HLT : Hid (val R < val r2) := hid (by rw [hvR]; exact Nat.mod_lt _ HVP.out)
      clear hb3 hsQ hsR hcQ hcR hvQ hvR hlQ bR3
      go_wp2
      go_roundg (val R)
      case rel => exact HREL.out
      case measure => rw [HGK.out]; exact HLT.out

theorem Box.off2s {W : World} {g h : Nat} {p q : Value} (b : Box W g p q) (hne : g ≠ h) (u v : Value) : Box ((W.setCell ⟨h, 0, none⟩ u).setCell ⟨h, 1, none⟩ v) g p q := (b.other hne u).other hne v

/-- What the document's Div has laid and counted: both numbers in their boxes. -/
def RDLaid (w : World) (n m : Nat) (x y : Int) (neg1 : Bool) (ao1 : Option Addr) (k1 cap1 : Nat) (l1 : List Nat) (neg2 : Bool) (ao2 : Option Addr) (k2 cap2 : Nat) (l2 : List Nat) (W : World) : Prop :=
  Hid (k1 = l1.length) ∧ Hid (k2 = l2.length) ∧ Cnt w n x neg1 ao1 cap1 l1 ∧ Cnt w m y neg2 ao2 cap2 l2 ∧ Box W w.heap.size (.bool neg1) (.slice ao1 k1 cap1) ∧ Box W (w.heap.size + 1) (.bool neg2) (.slice ao2 k2 cap2) ∧ Box W (w.heap.size + 1 + 1) (.bool false) (.slice none 0 0) ∧ Box W (w.heap.size + 1 + 1 + 1) (.bool false) (.slice none 0 0) ∧ Below w.heap.size w W

set_option maxHeartbeats 3200000 in
theorem rdiv_zero (w : World) (u v : Value) (n m : Nat) (x y : Int) (hx : Arg w u n x) (hy : Arg w v m y) (h0 : y = 0) (hn : n ≤ 200000) (hm : m ≤ 200000) :
    Calls Try.prog 21 #[u, v] w fun e w' => e = .returned (.tuple #[.agg #[.bool false, .slice none 0 0], .agg #[.bool false, .slice none 0 0], .int .i64 1]) ∧ Below w.heap.size w w' := by
  have HX := hid hx
  have HY := hid hy
  have H0 := hid h0
  obtain ⟨n1, s1, q1, rfl, ⟨aa1, cc1, rfl, -⟩, -⟩ := hx
  obtain ⟨n2, s2, q2, rfl, ⟨aa2, cc2, rfl, -⟩, -⟩ := hy
  generalize q1.length = K1 at *
  generalize q2.length = K2 at *
  clear h0
  go_enter Try.func21, Try.ntmps21
  go_wp2_with fail
  have hW0 : Below w.heap.size w ((((w.alloc (.cells #[.bool n1, .slice aa1 K1 cc1] 24)).alloc (.cells #[.bool n2, .slice aa2 K2 cc2] 24)).alloc (.cells #[.bool false, .slice none 0 0] 24)).alloc (.cells #[.bool false, .slice none 0 0] 24)) := (by repeat (first | exact Below.refl _ _ | refine Below.alloc ?_ ?_ _ | refine Below.setCell ?_ ?_ _ | refine Below.drew ?_ | refine below_drewN ?_ _ | (· simp) | omega | (· simp; omega) | exact Below.size (by assumption) | assumption | refine below_call ?_ (by assumption) ?_))
  have bA : Box ((((w.alloc (.cells #[.bool n1, .slice aa1 K1 cc1] 24)).alloc (.cells #[.bool n2, .slice aa2 K2 cc2] 24)).alloc (.cells #[.bool false, .slice none 0 0] 24)).alloc (.cells #[.bool false, .slice none 0 0] 24)) w.heap.size (.bool n1) (.slice aa1 K1 cc1) := (((Box.new w _ _ _ rfl).alloc _).alloc _).alloc _
  have bB : Box ((((w.alloc (.cells #[.bool n1, .slice aa1 K1 cc1] 24)).alloc (.cells #[.bool n2, .slice aa2 K2 cc2] 24)).alloc (.cells #[.bool false, .slice none 0 0] 24)).alloc (.cells #[.bool false, .slice none 0 0] 24)) (w.heap.size + 1) (.bool n2) (.slice aa2 K2 cc2) := ((Box.new _ _ _ _ (by simp)).alloc _).alloc _
  have bQ : Box ((((w.alloc (.cells #[.bool n1, .slice aa1 K1 cc1] 24)).alloc (.cells #[.bool n2, .slice aa2 K2 cc2] 24)).alloc (.cells #[.bool false, .slice none 0 0] 24)).alloc (.cells #[.bool false, .slice none 0 0] 24)) (w.heap.size + 1 + 1) (.bool false) (.slice none 0 0) := (Box.new _ _ _ _ (by simp)).alloc _
  have bR : Box ((((w.alloc (.cells #[.bool n1, .slice aa1 K1 cc1] 24)).alloc (.cells #[.bool n2, .slice aa2 K2 cc2] 24)).alloc (.cells #[.bool false, .slice none 0 0] 24)).alloc (.cells #[.bool false, .slice none 0 0] 24)) (w.heap.size + 1 + 1 + 1) (.bool false) (.slice none 0 0) := Box.new _ _ _ _ (by simp)
  generalize ((((w.alloc (.cells #[.bool n1, .slice aa1 K1 cc1] 24)).alloc (.cells #[.bool n2, .slice aa2 K2 cc2] 24)).alloc (.cells #[.bool false, .slice none 0 0] 24)).alloc (.cells #[.bool false, .slice none 0 0] 24)) = W0 at *
  refine (rnorm_h w _ _ n x HX.out hW0).mono ?_
  rintro e w1 ⟨neg1, ao1, cap1, k1, l1, rfl, HK1, HC1, hb1⟩
  have hW1 := below_call hW0 hb1 hW0.size
  replace bA := bA.keep hb1
  replace bB := bB.keep hb1
  replace bQ := bQ.keep hb1
  replace bR := bR.keep hb1
  have a0 := bA.c0
  have a1 := bA.c1
  have af := bA.f
  have b0 := bB.c0
  have b1 := bB.c1
  have lA := bA.lt
  have lB := bB.lt
  have lR := bR.lt
  have U1 : Box ((w1.setCell ⟨w.heap.size, 0, none⟩ (.bool neg1)).setCell ⟨w.heap.size, 1, none⟩ (.slice ao1 k1 cap1)) w.heap.size (.bool neg1) (.slice ao1 k1 cap1) := (bA.set0 _).set1 _
  have U2 : Box ((w1.setCell ⟨w.heap.size, 0, none⟩ (.bool neg1)).setCell ⟨w.heap.size, 1, none⟩ (.slice ao1 k1 cap1)) (w.heap.size + 1) (.bool n2) (.slice aa2 K2 cc2) := (bB.other (by show w.heap.size + 1 ≠ w.heap.size; omega) _).other (by show w.heap.size + 1 ≠ w.heap.size; omega) _
  have U3 : Box ((w1.setCell ⟨w.heap.size, 0, none⟩ (.bool neg1)).setCell ⟨w.heap.size, 1, none⟩ (.slice ao1 k1 cap1)) (w.heap.size + 1 + 1) (.bool false) (.slice none 0 0) := (bQ.other (by show w.heap.size + 1 + 1 ≠ w.heap.size; omega) _).other (by show w.heap.size + 1 + 1 ≠ w.heap.size; omega) _
  have U4 : Box ((w1.setCell ⟨w.heap.size, 0, none⟩ (.bool neg1)).setCell ⟨w.heap.size, 1, none⟩ (.slice ao1 k1 cap1)) (w.heap.size + 1 + 1 + 1) (.bool false) (.slice none 0 0) := (bR.other (by show w.heap.size + 1 + 1 + 1 ≠ w.heap.size; omega) _).other (by show w.heap.size + 1 + 1 + 1 ≠ w.heap.size; omega) _
  have U5 : Below w.heap.size w ((w1.setCell ⟨w.heap.size, 0, none⟩ (.bool neg1)).setCell ⟨w.heap.size, 1, none⟩ (.slice ao1 k1 cap1)) := (hW1.setCell (by show w.heap.size ≤ w.heap.size; omega) _).setCell (by show w.heap.size ≤ w.heap.size; omega) _
  clear hb1 hW1 hW0 bA bB bQ bR
  go_wp2_with fail
  clear a0 a1 af b0 b1 lA lB lR
  generalize (w1.setCell ⟨w.heap.size, 0, none⟩ (.bool neg1)).setCell ⟨w.heap.size, 1, none⟩ (.slice ao1 k1 cap1) = W1 at *
  refine (rnorm_h w _ _ m y HY.out U5).mono ?_
  rintro e w2 ⟨neg2, ao2, cap2, k2, l2, rfl, HK2, HC2, hb2⟩
  have hW2 := below_call U5 hb2 U5.size
  replace U1 := U1.keep hb2
  replace U2 := U2.keep hb2
  replace U3 := U3.keep hb2
  replace U4 := U4.keep hb2
  have b0 := U2.c0
  have b1 := U2.c1
  have bf := U2.f
  have lB := U2.lt
  have lA := U1.lt
  have lR := U4.lt
  have HD : Hid (RDLaid w n m x y neg1 ao1 k1 cap1 l1 neg2 ao2 k2 cap2 l2 ((w2.setCell ⟨w.heap.size + 1, 0, none⟩ (.bool neg2)).setCell ⟨w.heap.size + 1, 1, none⟩ (.slice ao2 k2 cap2))) := hid
    ⟨HK1, HK2, HC1, HC2, (U1.other (by show w.heap.size ≠ w.heap.size + 1; omega) _).other (by show w.heap.size ≠ w.heap.size + 1; omega) _, (U2.set0 _).set1 _, (U3.other (by show w.heap.size + 1 + 1 ≠ w.heap.size + 1; omega) _).other (by show w.heap.size + 1 + 1 ≠ w.heap.size + 1; omega) _, (U4.other (by show w.heap.size + 1 + 1 + 1 ≠ w.heap.size + 1; omega) _).other (by show w.heap.size + 1 + 1 + 1 ≠ w.heap.size + 1; omega) _, (hW2.setCell (by show w.heap.size ≤ w.heap.size + 1; omega) _).setCell (by show w.heap.size ≤ w.heap.size + 1; omega) _⟩
  have hk2m : k2 ≤ 9223372036854775807 := by have a := HC2.2.1; have c := HK2.out; omega
  have hk0 : k2 = 0 := by
    have h1 := HC2.2.2.2
    rw [H0.out] at h1
    have h2 := sgn_abs neg2 (val l2)
    rw [← h1] at h2
    have h3 := val_eq_zero (may_canon HC2.2.2.1) (by simpa using h2.symm)
    rw [HK2.out, h3]; rfl
  subst hk0
  clear HC1 HC2 HK1 U1 U2 hb2 hW2 U5 HX HY
  have q0 := U3.c0
  have q1 := U3.c1
  have qf := U3.f
  have r0 := U4.c0
  have r1 := U4.c1
  have rf := U4.f
  have lQ := U3.lt
  go_wp2
  have hWn := HD.out.2.2.2.2.2.2.2.2
  refine bodyPost_ret (v := .tuple #[.agg #[.bool false, .slice none 0 0], .agg #[.bool false, .slice none 0 0], .int .i64 1]) ?_ rfl ⟨rfl, (((hWn.setCell (by show w.heap.size ≤ w.heap.size + 1 + 1; omega) _).setCell (by show w.heap.size ≤ w.heap.size + 1 + 1; omega) _).setCell (by show w.heap.size ≤ w.heap.size + 1 + 1 + 1; omega) _).setCell (by show w.heap.size ≤ w.heap.size + 1 + 1 + 1; omega) _⟩
  simp [results, Try.results21, go_sem, q0, q1, r0, r1]

end Go.Proofs.Ytiicjfacekldnaa
