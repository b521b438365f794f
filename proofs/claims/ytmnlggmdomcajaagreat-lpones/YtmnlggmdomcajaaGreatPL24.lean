/-
  Proved: the law LpOnes of the program returns true for every linear problem and every answer and every answer and every row of quotients, and leaves its arguments as they were. No condition.
-/
import Derived.Test.YtmnlggmdomcajaaGreatL24
import Derived.Test.YtmnlggmdomcajaaGreatLFrame
import Derived.Test.YtmnlggmdomcajaaGreatL18a
namespace Go.Proofs.YtmnlggmdomcajaaGreat
open Go.ChangeShapes Go.WideShapes Go.ChangeAt Go.RowKit Go.Joins Lm
open Go.ChangeMaps (open_string shut_string)
set_option linter.unusedVariables false
set_option maxRecDepth 100000

set_option maxRecDepth 100000 in
theorem lpOnes_lifted (os : Os) (started : os.Started) (H : Type) (enc : TypeId × Value → H) :
    ReturnsInHanded {} Tryz.checked os 6 .any (Rows.lpOnesSpec.pre6 enc Tryz.prog Tryz.f6 Rows.lpOnesRow.domain false) (Rows.lpOnesSpec.post enc Tryz.prog Tryz.f6 false true false false) := by
  refine returnsInHanded_of_change (C := Tryz.checked) Tryz.own started (by kernel_rfl) Tryz.func6
    (ChangeSpec.witness6 (enc := enc) (C := Tryz.checked) false ⟨#[], #[.agg #[.int .i64 0, .slice none 0 0, .slice none 0 0, .slice none 0 0], .agg #[.int .i64 0, .bool false, .slice none 0 0, .bool false, .slice none 0 0, .slice none 0 0, .slice none 0 0, .slice none 0 0], .agg #[.int .i64 0, .bool false, .slice none 0 0, .bool false, .slice none 0 0, .slice none 0 0, .slice none 0 0, .slice none 0 0], .slice none 0 0], []⟩ 8 (by kernel_rfl) (by kernel_rfl) (by kernel_rfl) (by kernel_rfl)) ?_
  intro W base args ds gs before hval0 hW hcnd _
  have hval : ∀ (j : Nat) t v, Tryz.f6.params[j]? = some t → args[j]? = some v → Value.okWide Tryz.prog W .any base t v := hval0
  have hW' := hW
  obtain ⟨p, q, hA0, hV, rfl, hfz, hnd⟩ := hW
  have hA : DataW.TrodAll enc Tryz.prog W 0 (fun _ => true) true Tryz.f6.params.toList args.toList ds p := hA0
  rw [Tryz.params6] at hA hval
  obtain ⟨v0, vs0, d0, ds0, p0, q0, hargs, rfl, rfl, h0, r0⟩ := trodAll_cons hA
  obtain ⟨v1, vs1, d1, ds1, p1, q1, rfl, rfl, rfl, h1, r1⟩ := trodAll_cons r0
  obtain ⟨v2, vs2, d2, ds2, p2, q2, rfl, rfl, rfl, h2, r2⟩ := trodAll_cons r1
  obtain ⟨v3, vs3, d3, ds3, p3, q3, rfl, rfl, rfl, h3, r3⟩ := trodAll_cons r2
  obtain ⟨rfl, rfl, rfl⟩ := trodAll_nil r3
  obtain rfl : args = #[v0, v1, v2, v3] := by cases args; simp_all
  obtain ⟨rfl, rfl⟩ := trodVars_none hV
  have k0 := h0
  have lt0 : ∀ x ∈ p0, x.block < W.heap.size := by obtain ⟨m, hm⟩ := k0; exact DataW.trod_lt m _ _ _ hm
  obtain ⟨n0, pao0, pka0, pca0, pM0, pbo0, pkb0, pcb0, pB0, pco0, pkc0, pcc0, pC0, rfl, pt0, pu0, pv0, pw0, px0, py0⟩ := open_lp (hval 0 43 v0 rfl rfl) h0
  have k1 := h1
  have lt1 : ∀ x ∈ p1, x.block < W.heap.size := by obtain ⟨m, hm⟩ := k1; exact DataW.trod_lt m _ _ _ hm
  obtain ⟨kd1, neg1, ao1, cap1, l1, neh1, bo1, caq1, lb1, xo1, kx1, cx1, X1, yo1, ky1, cy1, Y1, ro1, kr1, cr1, R1, rfl, hs1, ht1, hu1, hv1, hw1, hx1, hy1, hz1⟩ := open_answer (hval 1 46 v1 rfl rfl) h1
  have k2 := h2
  have lt2 : ∀ x ∈ p2, x.block < W.heap.size := by obtain ⟨m, hm⟩ := k2; exact DataW.trod_lt m _ _ _ hm
  obtain ⟨kd2, neg2, ao2, cap2, l2, neh2, bo2, caq2, lb2, xo2, kx2, cx2, X2, yo2, ky2, cy2, Y2, ro2, kr2, cr2, R2, rfl, hs2, ht2, hu2, hv2, hw2, hx2, hy2, hz2⟩ := open_answer (hval 2 46 v2 rfl rfl) h2
  have k3 := h3
  have lt3 : ∀ x ∈ p3, x.block < W.heap.size := by obtain ⟨m, hm⟩ := k3; exact DataW.trod_lt m _ _ _ hm
  obtain ⟨ao3, n3, cap3, l3, rfl, hn3, hs3⟩ := open_row (hval 3 41 v3 rfl rfl) h3
  clear hA0 hval0
  refine (lpOnes_any awake5_any W (⟨n0, pao0, pka0, pca0, pbo0, pkb0, pcb0, pco0, pkc0, pcc0, pM0.map (List.map RQ.r), pB0.map RQ.r, pC0.map RQ.r⟩ : LPd) (⟨kd1, neg1, ao1, l1.length, cap1, neh1, bo1, lb1.length, caq1, xo1, kx1, cx1, yo1, ky1, cy1, ro1, kr1, cr1, ratMean neg1 l1 neh1 lb1, X1.map RQ.r, Y1.map RQ.r, R1.map RQ.r⟩ : Ansd) (⟨kd2, neg2, ao2, l2.length, cap2, neh2, bo2, lb2.length, caq2, xo2, kx2, cx2, yo2, ky2, cy2, ro2, kr2, cr2, ratMean neg2 l2 neh2 lb2, X2.map RQ.r, Y2.map RQ.r, R2.map RQ.r⟩ : Ansd) ao3 n3 cap3 l3 (⟨pt0, pu0, pv0, pw0, px0, py0, rfl, rfl, rfl⟩ : LPd.Raw _ pM0 pB0 pC0 W) (⟨rfl, rfl, rfl, rfl, hs1, ht1, hu1, hv1, hw1, hx1, hy1, hz1, rfl, rfl, rfl, rfl⟩ : Ansd.Raw _ ⟨neg1, l1, neh1, lb1⟩ X1 Y1 R1 W) (⟨rfl, rfl, rfl, rfl, hs2, ht2, hu2, hv2, hw2, hx2, hy2, hz2, rfl, rfl, rfl, rfl⟩ : Ansd.Raw _ ⟨neg2, l2, neh2, lb2⟩ X2 Y2 R2 W) hn3 hs3).mono fun e W' ⟨he, bel⟩ => ?_
  subst he
  exact ⟨_, rfl, _, _, _, [], _, [], hW', trodAll_mk1 (shut_bool Tryz.underlying4 _), (trodAll_cons_mk (Below.trod Tryz.laidOut (by kernel_rfl) (of_decide_eq_true (by kernel_rfl)) k0 bel lt0) (trodAll_cons_mk (Below.trod Tryz.laidOut (by kernel_rfl) (of_decide_eq_true (by kernel_rfl)) k1 bel lt1) (trodAll_cons_mk (Below.trod Tryz.laidOut (by kernel_rfl) (of_decide_eq_true (by kernel_rfl)) k2 bel lt2) (trodAll_cons_mk (Below.trod Tryz.laidOut (by kernel_rfl) (of_decide_eq_true (by kernel_rfl)) k3 bel lt3) trodAll_mk0)))), rfl, bel.frame _, fun h => by cases h⟩

theorem lpOnes_holds : Rows.LpOnesSaid :=
  OpenClaim.holds_of_wide 6 Tryz.f6 rfl rfl rfl rfl rfl rfl rfl ⟨rfl, rfl, rfl, rfl, rfl⟩ rfl rfl rfl rfl rfl (by kernel_rfl) Tryz.func6 (by kernel_rfl)
    (of_decide_eq_true (by kernel_rfl)) (by unfold Func.isWrapper; rw [if_neg (of_decide_eq_false (by kernel_rfl))]; exact ⟨rfl, rfl⟩)
    (fun os started H enc _ => lpOnes_lifted os started H enc)

#print axioms lpOnes_holds
end Go.Proofs.YtmnlggmdomcajaaGreat
