/-
  Quotients with ends, the document's: which is greater, the greater, the less, sums.
-/
import Derived.Test.YtmnlggmdomcajaaGreatY2
namespace Go.Proofs.YtmnlggmdomcajaaGreat
open Go.RowKit Lm
set_option linter.unusedSimpArgs false
set_option linter.unusedVariables false
set_option maxRecDepth 100000

set_option maxHeartbeats 3200000 in
theorem rAddExt_any (w : World) (u v : Value) (n m : Nat) (x : EX) (t : Rat) (hu : EArg w u n x) (hv : RArg w v m t) (hn : n ≤ 4000) (hm : m ≤ 4000) :
    Calls Tryz.prog 21 #[u, v] w (ENorm (3 * (n + 2) + 3 * m + 13) (addE x t) w) := by
  have HX := hid hu
  have HY := hid hv
  obtain ⟨k1, n1, a1, L1, c1, n2, a2, L2, c2, rfl⟩ := hu.shape
  obtain ⟨n3, a3, L3, c3, n4, a4, L4, c4, rfl⟩ := hv.shape
  clear hu hv
  have hW0 : Below w.heap.size w (((w.alloc (.cells #[.int .i64 k1, .bool n1, .slice a1 L1 c1, .bool n2, .slice a2 L2 c2] 28)).alloc (.cells #[.bool n3, .slice a3 L3 c3, .bool n4, .slice a4 L4 c4] 26)).alloc (.cells #[.int .i64 0, .bool false, .slice none 0 0, .bool false, .slice none 0 0] 28)) := (by repeat (first | exact Below.refl _ _ | refine Below.alloc ?_ ?_ _ | refine Below.setCell ?_ ?_ _ | refine Below.drew ?_ | refine below_drewN ?_ _ | (· simp) | omega | (· simp; omega) | exact Below.size (by assumption) | assumption | refine below_call ?_ (by assumption) ?_))
  have bA : Box5 (((w.alloc (.cells #[.int .i64 k1, .bool n1, .slice a1 L1 c1, .bool n2, .slice a2 L2 c2] 28)).alloc (.cells #[.bool n3, .slice a3 L3 c3, .bool n4, .slice a4 L4 c4] 26)).alloc (.cells #[.int .i64 0, .bool false, .slice none 0 0, .bool false, .slice none 0 0] 28)) w.heap.size (.int .i64 k1) (.bool n1) (.slice a1 L1 c1) (.bool n2) (.slice a2 L2 c2) := ((Box5.new _ _ _ _ _ _ _ rfl).alloc _).alloc _
  have bB : Box4 (((w.alloc (.cells #[.int .i64 k1, .bool n1, .slice a1 L1 c1, .bool n2, .slice a2 L2 c2] 28)).alloc (.cells #[.bool n3, .slice a3 L3 c3, .bool n4, .slice a4 L4 c4] 26)).alloc (.cells #[.int .i64 0, .bool false, .slice none 0 0, .bool false, .slice none 0 0] 28)) (w.heap.size + 1) (.bool n3) (.slice a3 L3 c3) (.bool n4) (.slice a4 L4 c4) := (Box4.new _ _ _ _ _ _ (by simp)).alloc _
  have bR : Box5 (((w.alloc (.cells #[.int .i64 k1, .bool n1, .slice a1 L1 c1, .bool n2, .slice a2 L2 c2] 28)).alloc (.cells #[.bool n3, .slice a3 L3 c3, .bool n4, .slice a4 L4 c4] 26)).alloc (.cells #[.int .i64 0, .bool false, .slice none 0 0, .bool false, .slice none 0 0] 28)) (w.heap.size + 1 + 1) (.int .i64 0) (.bool false) (.slice none 0 0) (.bool false) (.slice none 0 0) := Box5.new _ _ _ _ _ _ _ (by simp)
  replace HX := hid (HX.out.below hW0)
  replace HY := hid (HY.out.below hW0)
  go_enter Tryz.func21, Tryz.ntmps21
  obtain ⟨x0, x1, x2, x3, x4⟩ := bA.c; have xf := bA.f; have xl := bA.lt
  go_wp2_with fail
  clear x0 x1 x2 x3 x4 xf xl
  generalize (((w.alloc (.cells #[.int .i64 k1, .bool n1, .slice a1 L1 c1, .bool n2, .slice a2 L2 c2] 28)).alloc (.cells #[.bool n3, .slice a3 L3 c3, .bool n4, .slice a4 L4 c4] 26)).alloc (.cells #[.int .i64 0, .bool false, .slice none 0 0, .bool false, .slice none 0 0] 28)) = W0 at *
  refine (rNormExt_any _ _ n x HX.out (by omega)).mono ?_
  rintro e w1 ⟨m1, p1, j1, d1, m2, p2, j2, d2, rfl, hc1, hb1⟩
  replace bA := bA.keep hb1
  replace bB := bB.keep hb1
  replace bR := bR.keep hb1
  have hW1 := below_fill5 (below_call hW0 hb1 hW0.size) (Nat.le_refl _) (.int .i64 (eK x)) (.bool m1) (.slice p1 j1 d1) (.bool m2) (.slice p2 j2 d2)
  have bA1 := hid (Box5.filled bA (.int .i64 (eK x)) (.bool m1) (.slice p1 j1 d1) (.bool m2) (.slice p2 j2 d2))
  have bB1 := hid (bB.beside5 (h := w.heap.size) (by omega) (.int .i64 (eK x)) (.bool m1) (.slice p1 j1 d1) (.bool m2) (.slice p2 j2 d2))
  have bR1 := hid (bR.beside (h := w.heap.size) (by omega) (.int .i64 (eK x)) (.bool m1) (.slice p1 j1 d1) (.bool m2) (.slice p2 j2 d2))
  have hc1' := hid (hc1.off5 bA (grow5 w1 w.heap.size (.int .i64 (eK x)) (.bool m1) (.slice p1 j1 d1) (.bool m2) (.slice p2 j2 d2)))
  have HY1 := hid ((HY.out.below hb1).off5 bA (grow5 w1 w.heap.size (.int .i64 (eK x)) (.bool m1) (.slice p1 j1 d1) (.bool m2) (.slice p2 j2 d2)))
  obtain ⟨x0, x1, x2, x3, x4⟩ := bA.c; have xf := bA.f; have xl := bA.lt
  clear hb1 hW0 HX HY hc1
  have g0 := bR.c
  obtain ⟨r0, r1, r2, r3, r4⟩ := g0
  have rf := bR.f
  have rl := bR.lt
  obtain ⟨y0, y1, y2, y3⟩ := bB.c
  have yl := bB.lt
  clear bA bB bR
  cases x with
  | lo =>
    obtain ⟨rfl, rfl, s1, rfl, rfl, s2⟩ := hc1'.out
    have HB := hid (below_fill5 hW1 (show w.heap.size ≤ w.heap.size + 1 + 1 by omega) (.int .i64 (-1)) (.bool false) (.slice p1 0 d1) (.bool false) (.slice p2 0 d2))
    have G1 := hid (s1.off5 bR1.out (grow5 _ (w.heap.size + 1 + 1) (.int .i64 (-1)) (.bool false) (.slice p1 0 d1) (.bool false) (.slice p2 0 d2)))
    have G2 := hid (s2.off5 bR1.out (grow5 _ (w.heap.size + 1 + 1) (.int .i64 (-1)) (.bool false) (.slice p1 0 d1) (.bool false) (.slice p2 0 d2)))
    clear hc1' s1 s2 HY1 bA1 bB1 bR1
    simp only [eK] at *
    go_wp2
    refine bodyPost_ret (v := .agg #[.int .i64 (-1), .bool false, .slice p1 0 d1, .bool false, .slice p2 0 d2]) ?_ rfl ⟨false, p1, 0, d1, false, p2, 0, d2, rfl, ⟨rfl, rfl, G1.out, rfl, rfl, G2.out⟩, HB.out⟩
    simp [results, Tryz.results21, go_sem, r0, r1, r2, r3, r4]
  | hi =>
    obtain ⟨rfl, rfl, s1, rfl, rfl, s2⟩ := hc1'.out
    have HB := hid (below_fill5 hW1 (show w.heap.size ≤ w.heap.size + 1 + 1 by omega) (.int .i64 1) (.bool false) (.slice p1 0 d1) (.bool false) (.slice p2 0 d2))
    have G1 := hid (s1.off5 bR1.out (grow5 _ (w.heap.size + 1 + 1) (.int .i64 1) (.bool false) (.slice p1 0 d1) (.bool false) (.slice p2 0 d2)))
    have G2 := hid (s2.off5 bR1.out (grow5 _ (w.heap.size + 1 + 1) (.int .i64 1) (.bool false) (.slice p1 0 d1) (.bool false) (.slice p2 0 d2)))
    clear hc1' s1 s2 HY1 bA1 bB1 bR1
    simp only [eK] at *
    go_wp2
    refine bodyPost_ret (v := .agg #[.int .i64 1, .bool false, .slice p1 0 d1, .bool false, .slice p2 0 d2]) ?_ rfl ⟨false, p1, 0, d1, false, p2, 0, d2, rfl, ⟨rfl, rfl, G1.out, rfl, rfl, G2.out⟩, HB.out⟩
    simp [results, Tryz.results21, go_sem, r0, r1, r2, r3, r4]
  | q r =>
    have H1 : Hid (RIs _ 0 _ (n + 2) r) := hid hc1'.out
    clear hc1'
    simp only [eK] at *
    go_wp2_with fail
    clear x0 x1 x2 x3 x4 xf xl
    clear y0 y1 y2 y3 yl r0 r1 r2 r3 r4 rf rl
    rw [fill5_eq]
    generalize fill5 w1 w.heap.size (.int .i64 0) (.bool m1) (.slice p1 j1 d1) (.bool m2) (.slice p2 j2 d2) = W1 at *
    refine (addRat_any _ _ _ (n + 2) m r t H1.out.arg HY1.out (by omega) (by omega)).mono ?_
    rintro e w2 ⟨m3, p3, j3, d3, m4, p4, j4, d4, rfl, hI, hb2⟩
    have hW2 := below_call hW1 hb2 hW1.size
    have bR := bR1.out.keep hb2
    have HS := hid (hI.off5 bR (grow5 w2 (w.heap.size + 1 + 1) (.int .i64 0) (.bool m3) (.slice p3 j3 d3) (.bool m4) (.slice p4 j4 d4)))
    have HB := hid (below_fill5 hW2 (show w.heap.size ≤ w.heap.size + 1 + 1 by omega) (.int .i64 0) (.bool m3) (.slice p3 j3 d3) (.bool m4) (.slice p4 j4 d4))
    obtain ⟨r0, r1, r2, r3, r4⟩ := bR.c
    have rf := bR.f
    have rl := bR.lt
    clear hb2 hI bR bR1 bA1 bB1 H1 HY1
    go_wp2
    refine bodyPost_ret (v := .agg #[.int .i64 0, .bool m3, .slice p3 j3 d3, .bool m4, .slice p4 j4 d4]) ?_ rfl ⟨m3, p3, j3, d3, m4, p4, j4, d4, rfl, HS.out, HB.out⟩
    simp [results, Tryz.results21, go_sem, r0, r1, r2, r3, r4]

end Go.Proofs.YtmnlggmdomcajaaGreat
