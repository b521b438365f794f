/-
  Quotients with ends, the document's: which is greater, the greater, the less, sums.
-/
import Derived.Test.YtmnlggmdomcajaaGreatY2
namespace Go.Proofs.YtmnlggmdomcajaaGreat
open Go.RowKit Lm
set_option linter.unusedSimpArgs false
set_option linter.unusedVariables false
set_option maxRecDepth 100000

set_option maxHeartbeats 3200000 in
theorem rMaxExt_any (w : World) (u v : Value) (n : Nat) (x y : EX) (hu : EArg w u n x) (hv : EArg w v n y) (hn : n ≤ 4000) :
    Calls Tryz.prog 17 #[u, v] w (ENorm (n + 2) (maxE x y) w) := by
  have HX := hid hu
  have HY := hid hv
  obtain ⟨k1, n1, a1, L1, c1, n2, a2, L2, c2, rfl⟩ := hu.shape
  obtain ⟨k2, n3, a3, L3, c3, n4, a4, L4, c4, rfl⟩ := hv.shape
  clear hu hv
  have hW0 : Below w.heap.size w (((w.alloc (.cells #[.int .i64 k1, .bool n1, .slice a1 L1 c1, .bool n2, .slice a2 L2 c2] 28)).alloc (.cells #[.int .i64 k2, .bool n3, .slice a3 L3 c3, .bool n4, .slice a4 L4 c4] 28)).alloc (.cells #[.int .i64 0, .bool false, .slice none 0 0, .bool false, .slice none 0 0] 28)) := (by repeat (first | exact Below.refl _ _ | refine Below.alloc ?_ ?_ _ | refine Below.setCell ?_ ?_ _ | refine Below.drew ?_ | refine below_drewN ?_ _ | (· simp) | omega | (· simp; omega) | exact Below.size (by assumption) | assumption | refine below_call ?_ (by assumption) ?_))
  have bA : Box5 (((w.alloc (.cells #[.int .i64 k1, .bool n1, .slice a1 L1 c1, .bool n2, .slice a2 L2 c2] 28)).alloc (.cells #[.int .i64 k2, .bool n3, .slice a3 L3 c3, .bool n4, .slice a4 L4 c4] 28)).alloc (.cells #[.int .i64 0, .bool false, .slice none 0 0, .bool false, .slice none 0 0] 28)) w.heap.size (.int .i64 k1) (.bool n1) (.slice a1 L1 c1) (.bool n2) (.slice a2 L2 c2) := ((Box5.new _ _ _ _ _ _ _ rfl).alloc _).alloc _
  have bB : Box5 (((w.alloc (.cells #[.int .i64 k1, .bool n1, .slice a1 L1 c1, .bool n2, .slice a2 L2 c2] 28)).alloc (.cells #[.int .i64 k2, .bool n3, .slice a3 L3 c3, .bool n4, .slice a4 L4 c4] 28)).alloc (.cells #[.int .i64 0, .bool false, .slice none 0 0, .bool false, .slice none 0 0] 28)) (w.heap.size + 1) (.int .i64 k2) (.bool n3) (.slice a3 L3 c3) (.bool n4) (.slice a4 L4 c4) := (Box5.new _ _ _ _ _ _ _ (by simp)).alloc _
  have bR : Box5 (((w.alloc (.cells #[.int .i64 k1, .bool n1, .slice a1 L1 c1, .bool n2, .slice a2 L2 c2] 28)).alloc (.cells #[.int .i64 k2, .bool n3, .slice a3 L3 c3, .bool n4, .slice a4 L4 c4] 28)).alloc (.cells #[.int .i64 0, .bool false, .slice none 0 0, .bool false, .slice none 0 0] 28)) (w.heap.size + 1 + 1) (.int .i64 0) (.bool false) (.slice none 0 0) (.bool false) (.slice none 0 0) := Box5.new _ _ _ _ _ _ _ (by simp)
  replace HX := hid (HX.out.below hW0)
  replace HY := hid (HY.out.below hW0)
  have HM : Hid (maxE x y = if cmpE x y < 0 then y else x) := hid rfl
  obtain ⟨c, hc⟩ : ∃ c, cmpE x y = c := ⟨_, rfl⟩
  have HC := hid hc
  rw [hc] at HM
  clear hc
  go_enter Tryz.func17, Tryz.ntmps17
  obtain ⟨x0, x1, x2, x3, x4⟩ := bA.c; have xf := bA.f; have xl := bA.lt
  obtain ⟨y0, y1, y2, y3, y4⟩ := bB.c; have yf := bB.f; have yl := bB.lt
  go_wp2_with fail
  clear x0 x1 x2 x3 x4 xf xl
  clear y0 y1 y2 y3 y4 yf yl
  generalize (((w.alloc (.cells #[.int .i64 k1, .bool n1, .slice a1 L1 c1, .bool n2, .slice a2 L2 c2] 28)).alloc (.cells #[.int .i64 k2, .bool n3, .slice a3 L3 c3, .bool n4, .slice a4 L4 c4] 28)).alloc (.cells #[.int .i64 0, .bool false, .slice none 0 0, .bool false, .slice none 0 0] 28)) = W0 at *
  refine (rCmpExt_any _ _ _ n n x y HX.out HY.out hn hn).mono ?_
  rintro e w1 ⟨rfl, hb1⟩
  rw [HC.out]
  have hW1 := below_call hW0 hb1 hW0.size
  replace bA := bA.keep hb1
  replace bB := bB.keep hb1
  replace bR := bR.keep hb1
  replace HX := hid (HX.out.below hb1)
  replace HY := hid (HY.out.below hb1)
  clear hb1 hW0
  obtain ⟨x0, x1, x2, x3, x4⟩ := bA.c; have xf := bA.f; have xl := bA.lt
  obtain ⟨y0, y1, y2, y3, y4⟩ := bB.c; have yf := bB.f; have yl := bB.lt
  by_cases h0 : c < 0
  · have h0g : ¬ 0 ≤ c := by omega
    have HZ : Hid (maxE x y = y) := hid (by rw [HM.out, if_pos h0])
    go_wp2_with fail
    clear x0 x1 x2 x3 x4 xf xl
    clear y0 y1 y2 y3 y4 yf yl
    refine (rNormExt_any _ _ n y HY.out (by omega)).mono ?_
    rintro e w2 ⟨m3, p3, j3, d3, m4, p4, j4, d4, rfl, hI, hb2⟩
    have hW2 := below_call hW1 hb2 hW1.size
    replace bR := bR.keep hb2
    have HS := hid (hI.off5 bR (grow5 w2 (w.heap.size + 1 + 1) (.int .i64 (eK y)) (.bool m3) (.slice p3 j3 d3) (.bool m4) (.slice p4 j4 d4)))
    have HB := hid (below_fill5 hW2 (show w.heap.size ≤ w.heap.size + 1 + 1 by omega) (.int .i64 (eK y)) (.bool m3) (.slice p3 j3 d3) (.bool m4) (.slice p4 j4 d4))
    obtain ⟨r0, r1, r2, r3, r4⟩ := bR.c
    have rf := bR.f
    have rl := bR.lt
    clear hb2 hI bR bA bB HX HY
    go_wp2
    refine bodyPost_ret (v := .agg #[.int .i64 (eK y), .bool m3, .slice p3 j3 d3, .bool m4, .slice p4 j4 d4]) ?_ rfl ⟨m3, p3, j3, d3, m4, p4, j4, d4, by rw [HZ.out], by rw [HZ.out]; exact HS.out, HB.out⟩
    simp [results, Tryz.results17, go_sem, r0, r1, r2, r3, r4]
  · have h0g : 0 ≤ c := by omega
    have HZ : Hid (maxE x y = x) := hid (by rw [HM.out, if_neg h0])
    go_wp2_with fail
    clear x0 x1 x2 x3 x4 xf xl
    clear y0 y1 y2 y3 y4 yf yl
    refine (rNormExt_any _ _ n x HX.out (by omega)).mono ?_
    rintro e w2 ⟨m1, p1, j1, d1, m2, p2, j2, d2, rfl, hI, hb2⟩
    have hW2 := below_call hW1 hb2 hW1.size
    replace bR := bR.keep hb2
    have HS := hid (hI.off5 bR (grow5 w2 (w.heap.size + 1 + 1) (.int .i64 (eK x)) (.bool m1) (.slice p1 j1 d1) (.bool m2) (.slice p2 j2 d2)))
    have HB := hid (below_fill5 hW2 (show w.heap.size ≤ w.heap.size + 1 + 1 by omega) (.int .i64 (eK x)) (.bool m1) (.slice p1 j1 d1) (.bool m2) (.slice p2 j2 d2))
    obtain ⟨r0, r1, r2, r3, r4⟩ := bR.c
    have rf := bR.f
    have rl := bR.lt
    clear hb2 hI bR bA bB HX HY
    go_wp2
    refine bodyPost_ret (v := .agg #[.int .i64 (eK x), .bool m1, .slice p1 j1 d1, .bool m2, .slice p2 j2 d2]) ?_ rfl ⟨m1, p1, j1, d1, m2, p2, j2, d2, by rw [HZ.out], by rw [HZ.out]; exact HS.out, HB.out⟩
    simp [results, Tryz.results17, go_sem, r0, r1, r2, r3, r4]

set_option maxHeartbeats 3200000 in
theorem rMinExt_any (w : World) (u v : Value) (n : Nat) (x y : EX) (hu : EArg w u n x) (hv : EArg w v n y) (hn : n ≤ 4000) :
    Calls Tryz.prog 19 #[u, v] w (ENorm (n + 2) (minE x y) w) := by
  have HX := hid hu
  have HY := hid hv
  obtain ⟨k1, n1, a1, L1, c1, n2, a2, L2, c2, rfl⟩ := hu.shape
  obtain ⟨k2, n3, a3, L3, c3, n4, a4, L4, c4, rfl⟩ := hv.shape
  clear hu hv
  have hW0 : Below w.heap.size w (((w.alloc (.cells #[.int .i64 k1, .bool n1, .slice a1 L1 c1, .bool n2, .slice a2 L2 c2] 28)).alloc (.cells #[.int .i64 k2, .bool n3, .slice a3 L3 c3, .bool n4, .slice a4 L4 c4] 28)).alloc (.cells #[.int .i64 0, .bool false, .slice none 0 0, .bool false, .slice none 0 0] 28)) := (by repeat (first | exact Below.refl _ _ | refine Below.alloc ?_ ?_ _ | refine Below.setCell ?_ ?_ _ | refine Below.drew ?_ | refine below_drewN ?_ _ | (· simp) | omega | (· simp; omega) | exact Below.size (by assumption) | assumption | refine below_call ?_ (by assumption) ?_))
  have bA : Box5 (((w.alloc (.cells #[.int .i64 k1, .bool n1, .slice a1 L1 c1, .bool n2, .slice a2 L2 c2] 28)).alloc (.cells #[.int .i64 k2, .bool n3, .slice a3 L3 c3, .bool n4, .slice a4 L4 c4] 28)).alloc (.cells #[.int .i64 0, .bool false, .slice none 0 0, .bool false, .slice none 0 0] 28)) w.heap.size (.int .i64 k1) (.bool n1) (.slice a1 L1 c1) (.bool n2) (.slice a2 L2 c2) := ((Box5.new _ _ _ _ _ _ _ rfl).alloc _).alloc _
  have bB : Box5 (((w.alloc (.cells #[.int .i64 k1, .bool n1, .slice a1 L1 c1, .bool n2, .slice a2 L2 c2] 28)).alloc (.cells #[.int .i64 k2, .bool n3, .slice a3 L3 c3, .bool n4, .slice a4 L4 c4] 28)).alloc (.cells #[.int .i64 0, .bool false, .slice none 0 0, .bool false, .slice none 0 0] 28)) (w.heap.size + 1) (.int .i64 k2) (.bool n3) (.slice a3 L3 c3) (.bool n4) (.slice a4 L4 c4) := (Box5.new _ _ _ _ _ _ _ (by simp)).alloc _
  have bR : Box5 (((w.alloc (.cells #[.int .i64 k1, .bool n1, .slice a1 L1 c1, .bool n2, .slice a2 L2 c2] 28)).alloc (.cells #[.int .i64 k2, .bool n3, .slice a3 L3 c3, .bool n4, .slice a4 L4 c4] 28)).alloc (.cells #[.int .i64 0, .bool false, .slice none 0 0, .bool false, .slice none 0 0] 28)) (w.heap.size + 1 + 1) (.int .i64 0) (.bool false) (.slice none 0 0) (.bool false) (.slice none 0 0) := Box5.new _ _ _ _ _ _ _ (by simp)
  replace HX := hid (HX.out.below hW0)
  replace HY := hid (HY.out.below hW0)
  have HM : Hid (minE x y = if 0 < cmpE x y then y else x) := hid (by unfold minE; rw [cmpE_swap x y]; by_cases h : 0 < cmpE x y; rw [if_pos h, if_pos (by omega)]; rw [if_neg h, if_neg (by omega)])
  obtain ⟨c, hc⟩ : ∃ c, cmpE x y = c := ⟨_, rfl⟩
  have HC := hid hc
  rw [hc] at HM
  clear hc
  go_enter Tryz.func19, Tryz.ntmps19
  obtain ⟨x0, x1, x2, x3, x4⟩ := bA.c; have xf := bA.f; have xl := bA.lt
  obtain ⟨y0, y1, y2, y3, y4⟩ := bB.c; have yf := bB.f; have yl := bB.lt
  go_wp2_with fail
  clear x0 x1 x2 x3 x4 xf xl
  clear y0 y1 y2 y3 y4 yf yl
  generalize (((w.alloc (.cells #[.int .i64 k1, .bool n1, .slice a1 L1 c1, .bool n2, .slice a2 L2 c2] 28)).alloc (.cells #[.int .i64 k2, .bool n3, .slice a3 L3 c3, .bool n4, .slice a4 L4 c4] 28)).alloc (.cells #[.int .i64 0, .bool false, .slice none 0 0, .bool false, .slice none 0 0] 28)) = W0 at *
  refine (rCmpExt_any _ _ _ n n x y HX.out HY.out hn hn).mono ?_
  rintro e w1 ⟨rfl, hb1⟩
  rw [HC.out]
  have hW1 := below_call hW0 hb1 hW0.size
  replace bA := bA.keep hb1
  replace bB := bB.keep hb1
  replace bR := bR.keep hb1
  replace HX := hid (HX.out.below hb1)
  replace HY := hid (HY.out.below hb1)
  clear hb1 hW0
  obtain ⟨x0, x1, x2, x3, x4⟩ := bA.c; have xf := bA.f; have xl := bA.lt
  obtain ⟨y0, y1, y2, y3, y4⟩ := bB.c; have yf := bB.f; have yl := bB.lt
  by_cases h0 : 0 < c
  · have h0g : ¬ c ≤ 0 := by omega
    have HZ : Hid (minE x y = y) := hid (by rw [HM.out, if_pos h0])
    go_wp2_with fail
    clear x0 x1 x2 x3 x4 xf xl
    clear y0 y1 y2 y3 y4 yf yl
    refine (rNormExt_any _ _ n y HY.out (by omega)).mono ?_
    rintro e w2 ⟨m3, p3, j3, d3, m4, p4, j4, d4, rfl, hI, hb2⟩
    have hW2 := below_call hW1 hb2 hW1.size
    replace bR := bR.keep hb2
    have HS := hid (hI.off5 bR (grow5 w2 (w.heap.size + 1 + 1) (.int .i64 (eK y)) (.bool m3) (.slice p3 j3 d3) (.bool m4) (.slice p4 j4 d4)))
    have HB := hid (below_fill5 hW2 (show w.heap.size ≤ w.heap.size + 1 + 1 by omega) (.int .i64 (eK y)) (.bool m3) (.slice p3 j3 d3) (.bool m4) (.slice p4 j4 d4))
    obtain ⟨r0, r1, r2, r3, r4⟩ := bR.c
    have rf := bR.f
    have rl := bR.lt
    clear hb2 hI bR bA bB HX HY
    go_wp2
    refine bodyPost_ret (v := .agg #[.int .i64 (eK y), .bool m3, .slice p3 j3 d3, .bool m4, .slice p4 j4 d4]) ?_ rfl ⟨m3, p3, j3, d3, m4, p4, j4, d4, by rw [HZ.out], by rw [HZ.out]; exact HS.out, HB.out⟩
    simp [results, Tryz.results19, go_sem, r0, r1, r2, r3, r4]
  · have h0g : c ≤ 0 := by omega
    have HZ : Hid (minE x y = x) := hid (by rw [HM.out, if_neg h0])
    go_wp2_with fail
    clear x0 x1 x2 x3 x4 xf xl
    clear y0 y1 y2 y3 y4 yf yl
    refine (rNormExt_any _ _ n x HX.out (by omega)).mono ?_
    rintro e w2 ⟨m1, p1, j1, d1, m2, p2, j2, d2, rfl, hI, hb2⟩
    have hW2 := below_call hW1 hb2 hW1.size
    replace bR := bR.keep hb2
    have HS := hid (hI.off5 bR (grow5 w2 (w.heap.size + 1 + 1) (.int .i64 (eK x)) (.bool m1) (.slice p1 j1 d1) (.bool m2) (.slice p2 j2 d2)))
    have HB := hid (below_fill5 hW2 (show w.heap.size ≤ w.heap.size + 1 + 1 by omega) (.int .i64 (eK x)) (.bool m1) (.slice p1 j1 d1) (.bool m2) (.slice p2 j2 d2))
    obtain ⟨r0, r1, r2, r3, r4⟩ := bR.c
    have rf := bR.f
    have rl := bR.lt
    clear hb2 hI bR bA bB HX HY
    go_wp2
    refine bodyPost_ret (v := .agg #[.int .i64 (eK x), .bool m1, .slice p1 j1 d1, .bool m2, .slice p2 j2 d2]) ?_ rfl ⟨m1, p1, j1, d1, m2, p2, j2, d2, by rw [HZ.out], by rw [HZ.out]; exact HS.out, HB.out⟩
    simp [results, Tryz.results19, go_sem, r0, r1, r2, r3, r4]



end Go.Proofs.YtmnlggmdomcajaaGreat
