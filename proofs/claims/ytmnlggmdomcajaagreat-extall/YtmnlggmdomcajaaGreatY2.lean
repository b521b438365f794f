/-
  Quotients with ends, the document's: which is greater, the greater, the less, sums.
-/
import Derived.Test.YtmnlggmdomcajaaGreatY1
import Derived.Test.YtmnlggmdomcajaaGreatEA
namespace Go.Proofs.YtmnlggmdomcajaaGreat
open Go.RowKit Lm
set_option linter.unusedSimpArgs false
set_option linter.unusedVariables false
set_option maxRecDepth 100000

theorem EArg.offY {W W' : World} {v : Value} {n : Nat} {x : EX} {g k1 d1 k2 d2 : Nat} {z : Int} {a1 a2 : Option Addr} {b1 b2 : Bool} (h : EArg W v n x) (hg : Box5 W g (.int .i64 z) (.bool b1) (.slice a1 k1 d1) (.bool b2) (.slice a2 k2 d2)) (hW : W.grownBy W' (some g)) : EArg W' v n x := by
  obtain ⟨k, n1, p1, c1, l1, n2, p2, c2, l2, e, h1, h2, hr⟩ := h
  exact ⟨k, n1, p1, c1, l1, n2, p2, c2, l2, e, h1.off5 hg hW, h2.off5 hg hW, hr⟩

set_option maxHeartbeats 3200000 in
theorem rCmpExt_any (w : World) (u v : Value) (n m : Nat) (x y : EX) (hu : EArg w u n x) (hv : EArg w v m y) (hn : n ≤ 4000) (hm : m ≤ 4000) :
    Calls Tryz.prog 14 #[u, v] w fun e w' => e = .returned (.int .i64 (cmpE x y)) ∧ Below w.heap.size w w' := by
  have HX := hid hu
  have HY := hid hv
  obtain ⟨k1, n1, a1, L1, c1, n2, a2, L2, c2, rfl⟩ := hu.shape
  obtain ⟨k2, n3, a3, L3, c3, n4, a4, L4, c4, rfl⟩ := hv.shape
  clear hu hv
  have hW0 : Below w.heap.size w ((w.alloc (.cells #[.int .i64 k1, .bool n1, .slice a1 L1 c1, .bool n2, .slice a2 L2 c2] 28)).alloc (.cells #[.int .i64 k2, .bool n3, .slice a3 L3 c3, .bool n4, .slice a4 L4 c4] 28)) := (by repeat (first | exact Below.refl _ _ | refine Below.alloc ?_ ?_ _ | refine Below.setCell ?_ ?_ _ | refine Below.drew ?_ | refine below_drewN ?_ _ | (· simp) | omega | (· simp; omega) | exact Below.size (by assumption) | assumption | refine below_call ?_ (by assumption) ?_))
  have bA : Box5 ((w.alloc (.cells #[.int .i64 k1, .bool n1, .slice a1 L1 c1, .bool n2, .slice a2 L2 c2] 28)).alloc (.cells #[.int .i64 k2, .bool n3, .slice a3 L3 c3, .bool n4, .slice a4 L4 c4] 28)) w.heap.size (.int .i64 k1) (.bool n1) (.slice a1 L1 c1) (.bool n2) (.slice a2 L2 c2) := (Box5.new _ _ _ _ _ _ _ rfl).alloc _
  have bB : Box5 ((w.alloc (.cells #[.int .i64 k1, .bool n1, .slice a1 L1 c1, .bool n2, .slice a2 L2 c2] 28)).alloc (.cells #[.int .i64 k2, .bool n3, .slice a3 L3 c3, .bool n4, .slice a4 L4 c4] 28)) (w.heap.size + 1) (.int .i64 k2) (.bool n3) (.slice a3 L3 c3) (.bool n4) (.slice a4 L4 c4) := Box5.new _ _ _ _ _ _ _ (by simp)
  replace HX := hid (HX.out.below hW0)
  replace HY := hid (HY.out.below hW0)
  go_enter Tryz.func14, Tryz.ntmps14
  obtain ⟨x0, x1, x2, x3, x4⟩ := bA.c; have xf := bA.f; have xl := bA.lt
  go_wp2_with fail
  clear x0 x1 x2 x3 x4 xf xl
  generalize ((w.alloc (.cells #[.int .i64 k1, .bool n1, .slice a1 L1 c1, .bool n2, .slice a2 L2 c2] 28)).alloc (.cells #[.int .i64 k2, .bool n3, .slice a3 L3 c3, .bool n4, .slice a4 L4 c4] 28)) = W0 at *
  refine (rNormExt_any _ _ n x HX.out (by omega)).mono ?_
  rintro e w1 ⟨m1, p1, j1, d1, m2, p2, j2, d2, rfl, hc1, hb1⟩
  replace bA := bA.keep hb1
  replace bB := bB.keep hb1
  have hW1 := below_fill5 (below_call hW0 hb1 hW0.size) (Nat.le_refl _) (.int .i64 (eK x)) (.bool m1) (.slice p1 j1 d1) (.bool m2) (.slice p2 j2 d2)
  have bA1 := hid (Box5.filled bA (.int .i64 (eK x)) (.bool m1) (.slice p1 j1 d1) (.bool m2) (.slice p2 j2 d2))
  have bB1 := hid (bB.beside (h := w.heap.size) (by omega) (.int .i64 (eK x)) (.bool m1) (.slice p1 j1 d1) (.bool m2) (.slice p2 j2 d2))
  have hc1' := hid (hc1.off5 bA (grow5 w1 w.heap.size (.int .i64 (eK x)) (.bool m1) (.slice p1 j1 d1) (.bool m2) (.slice p2 j2 d2)))
  have HY1 := hid ((HY.out.below hb1).offY bA (grow5 w1 w.heap.size (.int .i64 (eK x)) (.bool m1) (.slice p1 j1 d1) (.bool m2) (.slice p2 j2 d2)))
  obtain ⟨x0, x1, x2, x3, x4⟩ := bA.c; have xf := bA.f; have xl := bA.lt
  obtain ⟨y0, y1, y2, y3, y4⟩ := bB.c; have yf := bB.f; have yl := bB.lt
  clear hb1 hW0 HX HY hc1
  go_wp2_with fail
  clear x0 x1 x2 x3 x4 xf xl
  clear y0 y1 y2 y3 y4 yf yl
  rw [fill5_eq]
  clear bA bB
  generalize fill5 w1 w.heap.size (.int .i64 (eK x)) (.bool m1) (.slice p1 j1 d1) (.bool m2) (.slice p2 j2 d2) = W1 at *
  refine (rNormExt_any _ _ m y HY1.out (by omega)).mono ?_
  rintro e w2 ⟨m3, p3, j3, d3, m4, p4, j4, d4, rfl, hc2, hb2⟩
  have bA := bA1.out.keep hb2
  have bB := bB1.out.keep hb2
  have hW2 := below_fill5 (below_call hW1 hb2 hW1.size) (show w.heap.size ≤ w.heap.size + 1 by omega) (.int .i64 (eK y)) (.bool m3) (.slice p3 j3 d3) (.bool m4) (.slice p4 j4 d4)
  have bA2 := hid (bA.beside (h := w.heap.size + 1) (by omega) (.int .i64 (eK y)) (.bool m3) (.slice p3 j3 d3) (.bool m4) (.slice p4 j4 d4))
  have bB2 := hid (Box5.filled bB (.int .i64 (eK y)) (.bool m3) (.slice p3 j3 d3) (.bool m4) (.slice p4 j4 d4))
  have HC1 := hid ((hc1'.out.below hb2).off5 bB (grow5 w2 (w.heap.size + 1) (.int .i64 (eK y)) (.bool m3) (.slice p3 j3 d3) (.bool m4) (.slice p4 j4 d4)))
  have HC2 := hid (hc2.off5 bB (grow5 w2 (w.heap.size + 1) (.int .i64 (eK y)) (.bool m3) (.slice p3 j3 d3) (.bool m4) (.slice p4 j4 d4)))
  clear hb2 hW1 HY1 hc1' hc2 bA1 bB1
  obtain ⟨x0, x1, x2, x3, x4⟩ := bA2.out.c
  obtain ⟨y0, y1, y2, y3, y4⟩ := bB2.out.c
  have xl := bA2.out.lt
  have yl := bB2.out.lt
  obtain ⟨z0, z1, z2, z3, z4⟩ := bB.c
  have zf := bB.f
  have zl := bB.lt
  obtain ⟨t0, t1, t2, t3, t4⟩ := bA.c
  have tl := bA.lt
  clear bA bB
  cases x with
  | lo => cases y <;> (clear HC1 HC2 bA2 bB2; simp only [eK] at *; go_wp2; go_ret; exact ⟨rfl, hW2⟩)
  | hi => cases y <;> (clear HC1 HC2 bA2 bB2; simp only [eK] at *; go_wp2; go_ret; exact ⟨rfl, hW2⟩)
  | q r =>
    cases y with
    | lo => clear HC1 HC2 bA2 bB2; simp only [eK] at *; go_wp2; go_ret; exact ⟨rfl, hW2⟩
    | hi => clear HC1 HC2 bA2 bB2; simp only [eK] at *; go_wp2; go_ret; exact ⟨rfl, hW2⟩
    | q s =>
      have H1 : Hid (RIs _ 0 _ (n + 2) r) := hid HC1.out
      have H2 : Hid (RIs _ 0 _ (m + 2) s) := hid HC2.out
      clear HC1 HC2 bA2 bB2
      simp only [eK] at *
      go_wp2_with fail
      rw [fill5_eq]
      refine (cmpRat_any _ _ _ _ _ r s H1.out.arg H2.out.arg (by omega) (by omega)).mono ?_
      rintro e w5 ⟨rfl, hb⟩
      have hW5 := below_call hW2 hb hW2.size
      clear x0 x1 x2 x3 x4 y0 y1 y2 y3 y4 xl yl z0 z1 z2 z3 z4 zf zl t0 t1 t2 t3 t4 tl
      go_wp2
      go_ret
      exact ⟨rfl, hW5⟩


end Go.Proofs.YtmnlggmdomcajaaGreat
