/-
  Walks: the document's own Neg, Add, Sub, Mul, Cmp.
-/
import Derived.Test.YtiicjfacekldnaaR4
import Derived.Test.YtiicjfacekldnaaW19
namespace Go.Proofs.Ytiicjfacekldnaa
open Go.RowKit Lm
set_option linter.unusedSimpArgs false
set_option linter.unusedVariables false
set_option maxRecDepth 100000

theorem rnorm_h (w0 w : World) (v : Value) (n : Nat) (z : Int) (h : Arg w0 v n z) (hw : Below w0.heap.size w0 w) :
    Calls Try.prog 68 #[v] w fun e w' => ∃ neg ao cap k l, e = .returned (.agg #[.bool neg, .slice ao k cap]) ∧ Hid (k = l.length) ∧ Cnt w0 n z neg ao cap l ∧ Below w.heap.size w w' := by
  refine (rnorm_num w0 w v n z h hw).mono ?_
  rintro e w' ⟨neg, ao, cap, l, rfl, h1, h2, h3, h4, h5⟩
  exact ⟨neg, ao, cap, l.length, l, rfl, rfl, ⟨h1, h2, h3, h4⟩, h5⟩
theorem rmk_k (w : World) (neg : Bool) (ao : Option Addr) (cap k : Nat) (l : List Nat) (hk : k = l.length) (h : SlAt w ao cap l) (hl : l.length ≤ 1000000) :
    Calls Try.prog 70 #[.bool neg, .slice ao k cap] w fun e w' => ∃ neg' ao' n' cap', e = .returned (.agg #[.bool neg', .slice ao' n' cap']) ∧ Hid (Is w' w.heap.size (.agg #[.bool neg', .slice ao' n' cap']) l.length (sgn neg (val l))) ∧ Below w.heap.size w w' := by
  subst hk
  exact rmk_any w neg ao cap l h hl
theorem radd_k (w : World) (ao : Option Addr) (ca ka : Nat) (A : List Nat) (bo : Option Addr) (cb kb : Nat) (B : List Nat) (hka : ka = A.length) (hkb : kb = B.length) (ha : SlAt w ao ca A) (hb : SlAt w bo cb B) (hN : A.length ≤ 1000000) (hM : B.length ≤ 1000000) :
    Calls Try.prog 117 #[.slice ao ka ca, .slice bo kb cb] w (RMade w (A.length + B.length + 1) (val A + val B)) := by
  subst hka hkb; exact radd_any w ao ca A bo cb B ha hb hN hM
theorem rmul_k (w : World) (ao : Option Addr) (ca ka : Nat) (A : List Nat) (bo : Option Addr) (cb kb : Nat) (B : List Nat) (hka : ka = A.length) (hkb : kb = B.length) (ha : SlAt w ao ca A) (hb : SlAt w bo cb B) (hN : A.length ≤ 500000) (hM : B.length ≤ 500000) :
    Calls Try.prog 118 #[.slice ao ka ca, .slice bo kb cb] w (RMade w (A.length + B.length) (val A * val B)) := by
  subst hka hkb; exact rmul_any w ao ca A bo cb B ha hb hN hM
theorem rsub_k (w : World) (ao : Option Addr) (ca ka : Nat) (A : List Nat) (bo : Option Addr) (cb kb : Nat) (B : List Nat) (hka : ka = A.length) (hkb : kb = B.length) (ha : SlAt w ao ca A) (hb : SlAt w bo cb B) (hN : A.length ≤ 1000000) (hle : B.length ≤ A.length) (hvv : val B ≤ val A) (hA0 : 0 < A.length) :
    Calls Try.prog 110 #[.slice ao ka ca, .slice bo kb cb] w (RMade w A.length (val A - val B)) := by
  subst hka hkb; exact rsub_any w ao ca A bo cb B ha hb hN hle hvv hA0
theorem rcmp_k (w : World) (ao : Option Addr) (ca ka : Nat) (A : List Nat) (bo : Option Addr) (cb kb : Nat) (B : List Nat) (hka : ka = A.length) (hkb : kb = B.length) (ha : SlAt w ao ca A) (hb : SlAt w bo cb B) (hca : canon A) (hcb : canon B) :
    Calls Try.prog 108 #[.slice ao ka ca, .slice bo kb cb] w fun e w' => e = .returned (.int .i64 (cmpI (val A : Int) (val B : Int))) ∧ Below w.heap.size w w' := by
  subst hka hkb; exact rcmp_any w ao ca A bo cb B ha hb hca hcb

set_option maxHeartbeats 3200000 in
theorem rneg_num (w : World) (u : Value) (n : Nat) (x : Int) (hx : Arg w u n x) (hn : n ≤ 1000000) :
    Calls Try.prog 85 #[u] w (Told w.heap.size n (-x) w) := by
  have HX := hid hx
  obtain ⟨n1, s1, l1, rfl, -⟩ := hx
  go_enter Try.func85, Try.ntmps85
  go_wp2_with fail
  refine (rnorm_h w _ _ n x HX.out (by repeat (first | exact Below.refl _ _ | refine Below.alloc ?_ ?_ _ | refine Below.setCell ?_ ?_ _ | refine Below.drew ?_ | refine below_drewN ?_ _ | (· simp) | omega | (· simp; omega) | exact Below.size (by assumption) | assumption | refine below_call ?_ (by assumption) ?_))).mono ?_
  rintro e w1 ⟨neg, ao, cap, k, l, rfl, HK, HC, hb1⟩
  have bA := (((Box.new w (.bool n1) s1 w.heap.size rfl).alloc (.cells #[.bool false, .slice none 0 0] 24)).keep hb1)
  have bR := ((Box.new (w.alloc (.cells #[.bool n1, s1] 24)) (.bool false) (.slice none 0 0) (w.heap.size + 1) (by simp)).keep hb1)
  have x0 := bA.c0
  have x1 := bA.c1
  have xf := bA.f
  have bA2 : Box ((w1.setCell ⟨w.heap.size, 0, none⟩ (.bool neg)).setCell ⟨w.heap.size, 1, none⟩ (.slice ao k cap)) w.heap.size (.bool neg) (.slice ao k cap) := (bA.set0 _).set1 _
  have bR2 : Box ((w1.setCell ⟨w.heap.size, 0, none⟩ (.bool neg)).setCell ⟨w.heap.size, 1, none⟩ (.slice ao k cap)) (w.heap.size + 1) (.bool false) (.slice none 0 0) := (bR.other (by simp) _).other (by simp) _
  have hW2 : Below w.heap.size w ((w1.setCell ⟨w.heap.size, 0, none⟩ (.bool neg)).setCell ⟨w.heap.size, 1, none⟩ (.slice ao k cap)) := (by repeat (first | exact Below.refl _ _ | refine Below.alloc ?_ ?_ _ | refine Below.setCell ?_ ?_ _ | refine Below.drew ?_ | refine below_drewN ?_ _ | (· simp) | omega | (· simp; omega) | exact Below.size (by assumption) | assumption | refine below_call ?_ (by assumption) ?_))
  clear bA bR hb1
  go_wp2_with fail
  clear x0 x1 xf
  generalize ((w1.setCell ⟨w.heap.size, 0, none⟩ (.bool neg)).setCell ⟨w.heap.size, 1, none⟩ (.slice ao k cap)) = v1 at *
  have hl := HC.2.1
  have hlt := bR2.lt
  refine (rmk_k _ _ ao cap k l HK.out (by exact HC.1.below hW2) (by omega)).mono ?_
  rintro e w4 ⟨nr, ar, kr, cr, rfl, HI, hb4⟩
  have b5 := bR2.keep hb4
  have r0 := b5.c0
  have r1 := b5.c1
  have rf := b5.f
  have HZ : Hid (-x = sgn (!neg) (val l)) := hid (by rw [HC.2.2.2]; cases neg <;> simp [sgn])
  have hW4 : Below w.heap.size w w4 := below_call hW2 hb4 hW2.size
  clear hb4 b5 bA2 bR2
  go_wp2
  refine bodyPost_ret (v := .agg #[.bool nr, .slice ar kr cr]) ?_ rfl ⟨nr, ar, kr, cr, rfl, ?_, (by repeat (first | exact Below.refl _ _ | refine Below.alloc ?_ ?_ _ | refine Below.setCell ?_ ?_ _ | refine Below.drew ?_ | refine below_drewN ?_ _ | (· simp) | omega | (· simp; omega) | exact Below.size (by assumption) | assumption | refine below_call ?_ (by assumption) ?_))⟩
  · simp [results, Try.results85, go_sem, r0, r1]
  · rw [HZ.out]
    exact ((HI.out.setCell (by show w.heap.size + 1 < _; omega) _).setCell (by show w.heap.size + 1 < _; omega) _).mono (by omega) hl

set_option maxHeartbeats 3200000 in
theorem rmul_num (w : World) (u v : Value) (n m : Nat) (x y : Int) (hx : Arg w u n x) (hy : Arg w v m y) (hn : n ≤ 500000) (hm : m ≤ 500000) :
    Calls Try.prog 91 #[u, v] w (Told w.heap.size (n + m) (x * y) w) := by
  have HX := hid hx
  have HY := hid hy
  obtain ⟨n1, s1, l1, rfl, -⟩ := hx
  obtain ⟨n2, s2, l2, rfl, -⟩ := hy
  go_enter Try.func91, Try.ntmps91
  go_wp2_with fail
  refine (rnorm_h w _ _ n x HX.out (by repeat (first | exact Below.refl _ _ | refine Below.alloc ?_ ?_ _ | refine Below.setCell ?_ ?_ _ | refine Below.drew ?_ | refine below_drewN ?_ _ | (· simp) | omega | (· simp; omega) | exact Below.size (by assumption) | assumption | refine below_call ?_ (by assumption) ?_))).mono ?_
  rintro e w1 ⟨neg1, ao1, cap1, k1, l1, rfl, HK1, HC1, hb1⟩
  have b1 := (laid3 w n1 s1 n2 s2).2.1.keep hb1
  have b2 := (laid3 w n1 s1 n2 s2).2.2.1.keep hb1
  have b3 := ((laid3 w n1 s1 n2 s2).2.2.2.1 (w.heap.size + 1 + 1) (by omega) (by omega)).keep hb1
  have x0 := b1.c0
  have x1 := b1.c1
  have xf := b1.f
  have y0 := b2.c0
  have y1 := b2.c1
  have B1 : Box ((w1.setCell ⟨w.heap.size, 0, none⟩ (.bool neg1)).setCell ⟨w.heap.size, 1, none⟩ (.slice ao1 k1 cap1)) w.heap.size (.bool neg1) (.slice ao1 k1 cap1) := (b1.set0 _).set1 _
  have B2 : Box ((w1.setCell ⟨w.heap.size, 0, none⟩ (.bool neg1)).setCell ⟨w.heap.size, 1, none⟩ (.slice ao1 k1 cap1)) (w.heap.size + 1) (.bool n2) s2 := (b2.other (by simp) _).other (by simp) _
  have B3 : Box ((w1.setCell ⟨w.heap.size, 0, none⟩ (.bool neg1)).setCell ⟨w.heap.size, 1, none⟩ (.slice ao1 k1 cap1)) (w.heap.size + 1 + 1) (.bool false) (.slice none 0 0) := (b3.other (by simp; omega) _).other (by simp; omega) _
  have hW1 : Below w.heap.size w ((w1.setCell ⟨w.heap.size, 0, none⟩ (.bool neg1)).setCell ⟨w.heap.size, 1, none⟩ (.slice ao1 k1 cap1)) := (by repeat (first | exact Below.refl _ _ | refine Below.alloc ?_ ?_ _ | refine Below.setCell ?_ ?_ _ | refine Below.drew ?_ | refine below_drewN ?_ _ | (· simp) | omega | (· simp; omega) | exact Below.size (by assumption) | assumption | refine below_call ?_ (by assumption) ?_))
  clear b1 b2 b3 hb1
  go_wp2_with fail
  clear x0 x1 xf y0 y1
  generalize ((w1.setCell ⟨w.heap.size, 0, none⟩ (.bool neg1)).setCell ⟨w.heap.size, 1, none⟩ (.slice ao1 k1 cap1)) = v1 at *
  refine (rnorm_h w _ _ m y HY.out hW1).mono ?_
  rintro e w2 ⟨neg2, ao2, cap2, k2, l2, rfl, HK2, HC2, hb2⟩
  have b1 := B1.keep hb2
  have b2 := B2.keep hb2
  have b3 := B3.keep hb2
  have hW2 := below_call hW1 hb2 hW1.size
  have x0 := b1.c0
  have x1 := b1.c1
  have y0 := b2.c0
  have y1 := b2.c1
  have yf := b2.f
  clear B1 B2 B3 hb2 hW1
  have B1 : Box ((w2.setCell ⟨w.heap.size + 1, 0, none⟩ (.bool neg2)).setCell ⟨w.heap.size + 1, 1, none⟩ (.slice ao2 k2 cap2)) w.heap.size (.bool neg1) (.slice ao1 k1 cap1) := (b1.other (by simp) _).other (by simp) _
  have B2 : Box ((w2.setCell ⟨w.heap.size + 1, 0, none⟩ (.bool neg2)).setCell ⟨w.heap.size + 1, 1, none⟩ (.slice ao2 k2 cap2)) (w.heap.size + 1) (.bool neg2) (.slice ao2 k2 cap2) := (b2.set0 _).set1 _
  have B3 : Box ((w2.setCell ⟨w.heap.size + 1, 0, none⟩ (.bool neg2)).setCell ⟨w.heap.size + 1, 1, none⟩ (.slice ao2 k2 cap2)) (w.heap.size + 1 + 1) (.bool false) (.slice none 0 0) := (b3.other (by simp) _).other (by simp) _
  have hW3 : Below w.heap.size w ((w2.setCell ⟨w.heap.size + 1, 0, none⟩ (.bool neg2)).setCell ⟨w.heap.size + 1, 1, none⟩ (.slice ao2 k2 cap2)) := (hW2.setCell (by simp) _).setCell (by simp) _
  clear b1 b2 b3 hW2
  go_wp2_with fail
  clear x0 x1 y0 y1 yf
  generalize ((w2.setCell ⟨w.heap.size + 1, 0, none⟩ (.bool neg2)).setCell ⟨w.heap.size + 1, 1, none⟩ (.slice ao2 k2 cap2)) = v2 at *
  have bl := B3.lt
  have HB1 := hid B1
  have HB2 := hid B2
  have HB3 := hid B3
  have a0 := B1.c0
  have a1 := B1.c1
  have b0 := B2.c0
  have b1 := B2.c1
  have hl1 := HC1.2.1
  have hl2 := HC2.2.1
  clear B1 B2 B3
  go_region_held3 (fun w' => (w'.cell? ⟨w.heap.size, 0, none⟩ = some (.bool neg1) ∧ w'.cell? ⟨w.heap.size, 1, none⟩ = some (.slice ao1 k1 cap1) ∧ w'.cell? ⟨w.heap.size + 1, 0, none⟩ = some (.bool neg2) ∧ w'.cell? ⟨w.heap.size + 1, 1, none⟩ = some (.slice ao2 k2 cap2))) (refine ⟨?_, ?_, ?_, ?_⟩ <;> repeat (first | with_reducible exact a40 | with_reducible exact a41 | with_reducible exact b40 | with_reducible exact b41 | with_reducible exact a30 | with_reducible exact a31 | with_reducible exact b30 | with_reducible exact b31 | with_reducible refine cell_far ?_ ?_ | with_reducible refine cell_drew ?_ | with_reducible exact a0 | with_reducible exact a1 | with_reducible exact b0 | with_reducible exact b1 | (· simp) | (· simp; omega))) (first
    | (go_at_call 118; go_must (refine (rmul_k _ ao1 cap1 k1 l1 ao2 cap2 k2 l2 HK1.out HK2.out (by exact (HC1.1.below hW3).drew) (by exact (HC2.1.below hW3).drew) (by omega) (by omega)).mono ?_); rintro e w3 ⟨ar3, cr3, kr3, l3, rfl, HK3, hs3, hf3, hcn3, hl3, hv3, hb3⟩; have HV3 := hid hv3; have bb1 := HB1.out.drew.keep hb3; have bb2 := HB2.out.drew.keep hb3; have HBX3 := hid (HB3.out.drew.keep hb3); have HB13 := hid bb1; have HB23 := hid bb2; have a30 := bb1.c0; have a31 := bb1.c1; have b30 := bb2.c0; have b31 := bb2.c1; have hz3 := hb3.size; simp only [dsize] at hz3; clear bb1 bb2 hv3 hcn3)
    | (go_at_call 70; go_must (refine (rmk_k _ _ _ cr3 kr3 l3 HK3.out (by exact hs3) (by omega)).mono ?_); rintro e w4 ⟨nr, ar, kr, cr, rfl, HI, hb4⟩; have bb1 := HB13.out.keep hb4; have bb2 := HB23.out.keep hb4; have bb3 := HBX3.out.keep hb4; have a40 := bb1.c0; have a41 := bb1.c1; have b40 := bb2.c0; have b41 := bb2.c1; have x0 := bb3.c0; have x1 := bb3.c1; have xf := bb3.f; clear bb1 bb2 bb3))
  have HZ : Hid (x * y = sgn (!neg1 == neg2) (val l3)) := hid (by rw [HC1.2.2.2, HC2.2.2.2, HV3.out]; cases neg1 <;> cases neg2 <;> simp [sgn, Int.neg_mul, Int.mul_neg])
  have hW4 : Below w.heap.size w w4 := below_call (below_call hW3.drew hb3 (by rw [dsize]; exact hW3.size)) hb4 (by omega)
  clear hb3 hb4 a30 a31 b30 b31 a40 a41 b40 b41 a0 a1 b0 b1
  go_wp2
  refine bodyPost_ret (v := .agg #[.bool nr, .slice ar kr cr]) ?_ rfl ⟨nr, ar, kr, cr, rfl, ?_, (by repeat (first | exact Below.refl _ _ | refine Below.alloc ?_ ?_ _ | refine Below.setCell ?_ ?_ _ | refine Below.drew ?_ | refine below_drewN ?_ _ | (· simp) | omega | (· simp; omega) | exact Below.size (by assumption) | assumption | refine below_call ?_ (by assumption) ?_))⟩
  · simp [results, Try.results91, go_sem, x0, x1]
  · rw [HZ.out]
    exact ((HI.out.setCell (by show w.heap.size + 1 + 1 < _; omega) _).setCell (by show w.heap.size + 1 + 1 < _; omega) _).mono (by omega) (by omega)

end Go.Proofs.Ytiicjfacekldnaa
