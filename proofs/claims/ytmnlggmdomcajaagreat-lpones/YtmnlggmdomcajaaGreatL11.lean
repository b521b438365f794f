/-
  Each look, called out of the table.
-/
import Derived.Test.YtmnlggmdomcajaaGreatL10
namespace Go.Proofs.YtmnlggmdomcajaaGreat
open Go.RowKit Lm
set_option linter.unusedSimpArgs false
set_option linter.unusedVariables false
set_option maxRecDepth 100000

theorem h1_pointIsWithin (w : World) (p : LPd) (a : Ansd) (g g' : Nat) (i : Int) (b : Bool) (bP : BoxL w g (.int .i64 p.n) (.slice p.ao p.ka p.ca) (.slice p.bo p.kb p.cb) (.slice p.co p.kc p.cc)) (bA : BoxA w g' a) (hc : Calls Tryz.prog 62 #[.agg #[.int .i64 p.n, .slice p.ao p.ka p.ca, .slice p.bo p.kb p.cb, .slice p.co p.kc p.cc], .agg #[.int .i64 a.kd, .bool a.n1, .slice a.a1 a.k1 a.c1, .bool a.n2, .slice a.a2 a.k2 a.c2, .slice a.xo a.kx a.cx, .slice a.yo a.ky a.cy, .slice a.ro a.kr a.cr]] w (Looked b w)) :
    Calls Tryz.prog 76 #[.int .i64 i, .func (.func 62) #[] #[], .pointer (some ⟨g, 0, none⟩), .pointer (some ⟨g', 0, none⟩)] w (Looked b w) := by
  obtain ⟨x0, x1, x2, x3⟩ := bP.c
  have xl := bP.lt
  obtain ⟨y0, y1, y2, y3, y4, y5, y6, y7⟩ := bA.c
  have yl := bA.lt
  have HC := hid hc
  clear hc
  go_enter Tryz.func76, Tryz.ntmps76
  go_wp2_with fail
  clear x0 x1 x2 x3 xl y0 y1 y2 y3 y4 y5 y6 y7 yl
  refine HC.out.mono ?_
  rintro e w1 ⟨rfl, hb⟩
  have HR := hid hb
  clear hb
  go_wp2
  go_ret
  exact ⟨rfl, HR.out⟩

theorem h1_weightsFit (w : World) (p : LPd) (a : Ansd) (g g' : Nat) (i : Int) (b : Bool) (bP : BoxL w g (.int .i64 p.n) (.slice p.ao p.ka p.ca) (.slice p.bo p.kb p.cb) (.slice p.co p.kc p.cc)) (bA : BoxA w g' a) (hc : Calls Tryz.prog 63 #[.agg #[.int .i64 p.n, .slice p.ao p.ka p.ca, .slice p.bo p.kb p.cb, .slice p.co p.kc p.cc], .agg #[.int .i64 a.kd, .bool a.n1, .slice a.a1 a.k1 a.c1, .bool a.n2, .slice a.a2 a.k2 a.c2, .slice a.xo a.kx a.cx, .slice a.yo a.ky a.cy, .slice a.ro a.kr a.cr]] w (Looked b w)) :
    Calls Tryz.prog 76 #[.int .i64 i, .func (.func 63) #[] #[], .pointer (some ⟨g, 0, none⟩), .pointer (some ⟨g', 0, none⟩)] w (Looked b w) := by
  obtain ⟨x0, x1, x2, x3⟩ := bP.c
  have xl := bP.lt
  obtain ⟨y0, y1, y2, y3, y4, y5, y6, y7⟩ := bA.c
  have yl := bA.lt
  have HC := hid hc
  clear hc
  go_enter Tryz.func76, Tryz.ntmps76
  go_wp2_with fail
  clear x0 x1 x2 x3 xl y0 y1 y2 y3 y4 y5 y6 y7 yl
  refine HC.out.mono ?_
  rintro e w1 ⟨rfl, hb⟩
  have HR := hid hb
  clear hb
  go_wp2
  go_ret
  exact ⟨rfl, HR.out⟩

theorem h1_weightsMakeC (w : World) (p : LPd) (a : Ansd) (g g' : Nat) (i : Int) (b : Bool) (bP : BoxL w g (.int .i64 p.n) (.slice p.ao p.ka p.ca) (.slice p.bo p.kb p.cb) (.slice p.co p.kc p.cc)) (bA : BoxA w g' a) (hc : Calls Tryz.prog 64 #[.agg #[.int .i64 p.n, .slice p.ao p.ka p.ca, .slice p.bo p.kb p.cb, .slice p.co p.kc p.cc], .agg #[.int .i64 a.kd, .bool a.n1, .slice a.a1 a.k1 a.c1, .bool a.n2, .slice a.a2 a.k2 a.c2, .slice a.xo a.kx a.cx, .slice a.yo a.ky a.cy, .slice a.ro a.kr a.cr]] w (Looked b w)) :
    Calls Tryz.prog 76 #[.int .i64 i, .func (.func 64) #[] #[], .pointer (some ⟨g, 0, none⟩), .pointer (some ⟨g', 0, none⟩)] w (Looked b w) := by
  obtain ⟨x0, x1, x2, x3⟩ := bP.c
  have xl := bP.lt
  obtain ⟨y0, y1, y2, y3, y4, y5, y6, y7⟩ := bA.c
  have yl := bA.lt
  have HC := hid hc
  clear hc
  go_enter Tryz.func76, Tryz.ntmps76
  go_wp2_with fail
  clear x0 x1 x2 x3 xl y0 y1 y2 y3 y4 y5 y6 y7 yl
  refine HC.out.mono ?_
  rintro e w1 ⟨rfl, hb⟩
  have HR := hid hb
  clear hb
  go_wp2
  go_ret
  exact ⟨rfl, HR.out⟩

theorem h1_pointReachesV (w : World) (p : LPd) (a : Ansd) (g g' : Nat) (i : Int) (b : Bool) (bP : BoxL w g (.int .i64 p.n) (.slice p.ao p.ka p.ca) (.slice p.bo p.kb p.cb) (.slice p.co p.kc p.cc)) (bA : BoxA w g' a) (hc : Calls Tryz.prog 65 #[.agg #[.int .i64 p.n, .slice p.ao p.ka p.ca, .slice p.bo p.kb p.cb, .slice p.co p.kc p.cc], .agg #[.int .i64 a.kd, .bool a.n1, .slice a.a1 a.k1 a.c1, .bool a.n2, .slice a.a2 a.k2 a.c2, .slice a.xo a.kx a.cx, .slice a.yo a.ky a.cy, .slice a.ro a.kr a.cr]] w (Looked b w)) :
    Calls Tryz.prog 76 #[.int .i64 i, .func (.func 65) #[] #[], .pointer (some ⟨g, 0, none⟩), .pointer (some ⟨g', 0, none⟩)] w (Looked b w) := by
  obtain ⟨x0, x1, x2, x3⟩ := bP.c
  have xl := bP.lt
  obtain ⟨y0, y1, y2, y3, y4, y5, y6, y7⟩ := bA.c
  have yl := bA.lt
  have HC := hid hc
  clear hc
  go_enter Tryz.func76, Tryz.ntmps76
  go_wp2_with fail
  clear x0 x1 x2 x3 xl y0 y1 y2 y3 y4 y5 y6 y7 yl
  refine HC.out.mono ?_
  rintro e w1 ⟨rfl, hb⟩
  have HR := hid hb
  clear hb
  go_wp2
  go_ret
  exact ⟨rfl, HR.out⟩

theorem h1_weightsBoundByV (w : World) (p : LPd) (a : Ansd) (g g' : Nat) (i : Int) (b : Bool) (bP : BoxL w g (.int .i64 p.n) (.slice p.ao p.ka p.ca) (.slice p.bo p.kb p.cb) (.slice p.co p.kc p.cc)) (bA : BoxA w g' a) (hc : Calls Tryz.prog 66 #[.agg #[.int .i64 p.n, .slice p.ao p.ka p.ca, .slice p.bo p.kb p.cb, .slice p.co p.kc p.cc], .agg #[.int .i64 a.kd, .bool a.n1, .slice a.a1 a.k1 a.c1, .bool a.n2, .slice a.a2 a.k2 a.c2, .slice a.xo a.kx a.cx, .slice a.yo a.ky a.cy, .slice a.ro a.kr a.cr]] w (Looked b w)) :
    Calls Tryz.prog 76 #[.int .i64 i, .func (.func 66) #[] #[], .pointer (some ⟨g, 0, none⟩), .pointer (some ⟨g', 0, none⟩)] w (Looked b w) := by
  obtain ⟨x0, x1, x2, x3⟩ := bP.c
  have xl := bP.lt
  obtain ⟨y0, y1, y2, y3, y4, y5, y6, y7⟩ := bA.c
  have yl := bA.lt
  have HC := hid hc
  clear hc
  go_enter Tryz.func76, Tryz.ntmps76
  go_wp2_with fail
  clear x0 x1 x2 x3 xl y0 y1 y2 y3 y4 y5 y6 y7 yl
  refine HC.out.mono ?_
  rintro e w1 ⟨rfl, hb⟩
  have HR := hid hb
  clear hb
  go_wp2
  go_ret
  exact ⟨rfl, HR.out⟩

theorem h1_noRay (w : World) (p : LPd) (a : Ansd) (g g' : Nat) (i : Int) (b : Bool) (bP : BoxL w g (.int .i64 p.n) (.slice p.ao p.ka p.ca) (.slice p.bo p.kb p.cb) (.slice p.co p.kc p.cc)) (bA : BoxA w g' a) (hc : Calls Tryz.prog 67 #[.agg #[.int .i64 p.n, .slice p.ao p.ka p.ca, .slice p.bo p.kb p.cb, .slice p.co p.kc p.cc], .agg #[.int .i64 a.kd, .bool a.n1, .slice a.a1 a.k1 a.c1, .bool a.n2, .slice a.a2 a.k2 a.c2, .slice a.xo a.kx a.cx, .slice a.yo a.ky a.cy, .slice a.ro a.kr a.cr]] w (Looked b w)) :
    Calls Tryz.prog 76 #[.int .i64 i, .func (.func 67) #[] #[], .pointer (some ⟨g, 0, none⟩), .pointer (some ⟨g', 0, none⟩)] w (Looked b w) := by
  obtain ⟨x0, x1, x2, x3⟩ := bP.c
  have xl := bP.lt
  obtain ⟨y0, y1, y2, y3, y4, y5, y6, y7⟩ := bA.c
  have yl := bA.lt
  have HC := hid hc
  clear hc
  go_enter Tryz.func76, Tryz.ntmps76
  go_wp2_with fail
  clear x0 x1 x2 x3 xl y0 y1 y2 y3 y4 y5 y6 y7 yl
  refine HC.out.mono ?_
  rintro e w1 ⟨rfl, hb⟩
  have HR := hid hb
  clear hb
  go_wp2
  go_ret
  exact ⟨rfl, HR.out⟩

theorem h1_weightsMakeNought (w : World) (p : LPd) (a : Ansd) (g g' : Nat) (i : Int) (b : Bool) (bP : BoxL w g (.int .i64 p.n) (.slice p.ao p.ka p.ca) (.slice p.bo p.kb p.cb) (.slice p.co p.kc p.cc)) (bA : BoxA w g' a) (hc : Calls Tryz.prog 68 #[.agg #[.int .i64 p.n, .slice p.ao p.ka p.ca, .slice p.bo p.kb p.cb, .slice p.co p.kc p.cc], .agg #[.int .i64 a.kd, .bool a.n1, .slice a.a1 a.k1 a.c1, .bool a.n2, .slice a.a2 a.k2 a.c2, .slice a.xo a.kx a.cx, .slice a.yo a.ky a.cy, .slice a.ro a.kr a.cr]] w (Looked b w)) :
    Calls Tryz.prog 76 #[.int .i64 i, .func (.func 68) #[] #[], .pointer (some ⟨g, 0, none⟩), .pointer (some ⟨g', 0, none⟩)] w (Looked b w) := by
  obtain ⟨x0, x1, x2, x3⟩ := bP.c
  have xl := bP.lt
  obtain ⟨y0, y1, y2, y3, y4, y5, y6, y7⟩ := bA.c
  have yl := bA.lt
  have HC := hid hc
  clear hc
  go_enter Tryz.func76, Tryz.ntmps76
  go_wp2_with fail
  clear x0 x1 x2 x3 xl y0 y1 y2 y3 y4 y5 y6 y7 yl
  refine HC.out.mono ?_
  rintro e w1 ⟨rfl, hb⟩
  have HR := hid hb
  clear hb
  go_wp2
  go_ret
  exact ⟨rfl, HR.out⟩

theorem h1_weightsBoundBelowNought (w : World) (p : LPd) (a : Ansd) (g g' : Nat) (i : Int) (b : Bool) (bP : BoxL w g (.int .i64 p.n) (.slice p.ao p.ka p.ca) (.slice p.bo p.kb p.cb) (.slice p.co p.kc p.cc)) (bA : BoxA w g' a) (hc : Calls Tryz.prog 69 #[.agg #[.int .i64 p.n, .slice p.ao p.ka p.ca, .slice p.bo p.kb p.cb, .slice p.co p.kc p.cc], .agg #[.int .i64 a.kd, .bool a.n1, .slice a.a1 a.k1 a.c1, .bool a.n2, .slice a.a2 a.k2 a.c2, .slice a.xo a.kx a.cx, .slice a.yo a.ky a.cy, .slice a.ro a.kr a.cr]] w (Looked b w)) :
    Calls Tryz.prog 76 #[.int .i64 i, .func (.func 69) #[] #[], .pointer (some ⟨g, 0, none⟩), .pointer (some ⟨g', 0, none⟩)] w (Looked b w) := by
  obtain ⟨x0, x1, x2, x3⟩ := bP.c
  have xl := bP.lt
  obtain ⟨y0, y1, y2, y3, y4, y5, y6, y7⟩ := bA.c
  have yl := bA.lt
  have HC := hid hc
  clear hc
  go_enter Tryz.func76, Tryz.ntmps76
  go_wp2_with fail
  clear x0 x1 x2 x3 xl y0 y1 y2 y3 y4 y5 y6 y7 yl
  refine HC.out.mono ?_
  rintro e w1 ⟨rfl, hb⟩
  have HR := hid hb
  clear hb
  go_wp2
  go_ret
  exact ⟨rfl, HR.out⟩

theorem h1_noPoint (w : World) (p : LPd) (a : Ansd) (g g' : Nat) (i : Int) (b : Bool) (bP : BoxL w g (.int .i64 p.n) (.slice p.ao p.ka p.ca) (.slice p.bo p.kb p.cb) (.slice p.co p.kc p.cc)) (bA : BoxA w g' a) (hc : Calls Tryz.prog 70 #[.agg #[.int .i64 p.n, .slice p.ao p.ka p.ca, .slice p.bo p.kb p.cb, .slice p.co p.kc p.cc], .agg #[.int .i64 a.kd, .bool a.n1, .slice a.a1 a.k1 a.c1, .bool a.n2, .slice a.a2 a.k2 a.c2, .slice a.xo a.kx a.cx, .slice a.yo a.ky a.cy, .slice a.ro a.kr a.cr]] w (Looked b w)) :
    Calls Tryz.prog 76 #[.int .i64 i, .func (.func 70) #[] #[], .pointer (some ⟨g, 0, none⟩), .pointer (some ⟨g', 0, none⟩)] w (Looked b w) := by
  obtain ⟨x0, x1, x2, x3⟩ := bP.c
  have xl := bP.lt
  obtain ⟨y0, y1, y2, y3, y4, y5, y6, y7⟩ := bA.c
  have yl := bA.lt
  have HC := hid hc
  clear hc
  go_enter Tryz.func76, Tryz.ntmps76
  go_wp2_with fail
  clear x0 x1 x2 x3 xl y0 y1 y2 y3 y4 y5 y6 y7 yl
  refine HC.out.mono ?_
  rintro e w1 ⟨rfl, hb⟩
  have HR := hid hb
  clear hb
  go_wp2
  go_ret
  exact ⟨rfl, HR.out⟩

theorem h1_noV (w : World) (p : LPd) (a : Ansd) (g g' : Nat) (i : Int) (b : Bool) (bP : BoxL w g (.int .i64 p.n) (.slice p.ao p.ka p.ca) (.slice p.bo p.kb p.cb) (.slice p.co p.kc p.cc)) (bA : BoxA w g' a) (hc : Calls Tryz.prog 71 #[.agg #[.int .i64 p.n, .slice p.ao p.ka p.ca, .slice p.bo p.kb p.cb, .slice p.co p.kc p.cc], .agg #[.int .i64 a.kd, .bool a.n1, .slice a.a1 a.k1 a.c1, .bool a.n2, .slice a.a2 a.k2 a.c2, .slice a.xo a.kx a.cx, .slice a.yo a.ky a.cy, .slice a.ro a.kr a.cr]] w (Looked b w)) :
    Calls Tryz.prog 76 #[.int .i64 i, .func (.func 71) #[] #[], .pointer (some ⟨g, 0, none⟩), .pointer (some ⟨g', 0, none⟩)] w (Looked b w) := by
  obtain ⟨x0, x1, x2, x3⟩ := bP.c
  have xl := bP.lt
  obtain ⟨y0, y1, y2, y3, y4, y5, y6, y7⟩ := bA.c
  have yl := bA.lt
  have HC := hid hc
  clear hc
  go_enter Tryz.func76, Tryz.ntmps76
  go_wp2_with fail
  clear x0 x1 x2 x3 xl y0 y1 y2 y3 y4 y5 y6 y7 yl
  refine HC.out.mono ?_
  rintro e w1 ⟨rfl, hb⟩
  have HR := hid hb
  clear hb
  go_wp2
  go_ret
  exact ⟨rfl, HR.out⟩

theorem h1_rayStaysWithin (w : World) (p : LPd) (a : Ansd) (g g' : Nat) (i : Int) (b : Bool) (bP : BoxL w g (.int .i64 p.n) (.slice p.ao p.ka p.ca) (.slice p.bo p.kb p.cb) (.slice p.co p.kc p.cc)) (bA : BoxA w g' a) (hc : Calls Tryz.prog 72 #[.agg #[.int .i64 p.n, .slice p.ao p.ka p.ca, .slice p.bo p.kb p.cb, .slice p.co p.kc p.cc], .agg #[.int .i64 a.kd, .bool a.n1, .slice a.a1 a.k1 a.c1, .bool a.n2, .slice a.a2 a.k2 a.c2, .slice a.xo a.kx a.cx, .slice a.yo a.ky a.cy, .slice a.ro a.kr a.cr]] w (Looked b w)) :
    Calls Tryz.prog 76 #[.int .i64 i, .func (.func 72) #[] #[], .pointer (some ⟨g, 0, none⟩), .pointer (some ⟨g', 0, none⟩)] w (Looked b w) := by
  obtain ⟨x0, x1, x2, x3⟩ := bP.c
  have xl := bP.lt
  obtain ⟨y0, y1, y2, y3, y4, y5, y6, y7⟩ := bA.c
  have yl := bA.lt
  have HC := hid hc
  clear hc
  go_enter Tryz.func76, Tryz.ntmps76
  go_wp2_with fail
  clear x0 x1 x2 x3 xl y0 y1 y2 y3 y4 y5 y6 y7 yl
  refine HC.out.mono ?_
  rintro e w1 ⟨rfl, hb⟩
  have HR := hid hb
  clear hb
  go_wp2
  go_ret
  exact ⟨rfl, HR.out⟩

theorem h1_rayRises (w : World) (p : LPd) (a : Ansd) (g g' : Nat) (i : Int) (b : Bool) (bP : BoxL w g (.int .i64 p.n) (.slice p.ao p.ka p.ca) (.slice p.bo p.kb p.cb) (.slice p.co p.kc p.cc)) (bA : BoxA w g' a) (hc : Calls Tryz.prog 73 #[.agg #[.int .i64 p.n, .slice p.ao p.ka p.ca, .slice p.bo p.kb p.cb, .slice p.co p.kc p.cc], .agg #[.int .i64 a.kd, .bool a.n1, .slice a.a1 a.k1 a.c1, .bool a.n2, .slice a.a2 a.k2 a.c2, .slice a.xo a.kx a.cx, .slice a.yo a.ky a.cy, .slice a.ro a.kr a.cr]] w (Looked b w)) :
    Calls Tryz.prog 76 #[.int .i64 i, .func (.func 73) #[] #[], .pointer (some ⟨g, 0, none⟩), .pointer (some ⟨g', 0, none⟩)] w (Looked b w) := by
  obtain ⟨x0, x1, x2, x3⟩ := bP.c
  have xl := bP.lt
  obtain ⟨y0, y1, y2, y3, y4, y5, y6, y7⟩ := bA.c
  have yl := bA.lt
  have HC := hid hc
  clear hc
  go_enter Tryz.func76, Tryz.ntmps76
  go_wp2_with fail
  clear x0 x1 x2 x3 xl y0 y1 y2 y3 y4 y5 y6 y7 yl
  refine HC.out.mono ?_
  rintro e w1 ⟨rfl, hb⟩
  have HR := hid hb
  clear hb
  go_wp2
  go_ret
  exact ⟨rfl, HR.out⟩

theorem h1_noWeights (w : World) (p : LPd) (a : Ansd) (g g' : Nat) (i : Int) (b : Bool) (bP : BoxL w g (.int .i64 p.n) (.slice p.ao p.ka p.ca) (.slice p.bo p.kb p.cb) (.slice p.co p.kc p.cc)) (bA : BoxA w g' a) (hc : Calls Tryz.prog 74 #[.agg #[.int .i64 p.n, .slice p.ao p.ka p.ca, .slice p.bo p.kb p.cb, .slice p.co p.kc p.cc], .agg #[.int .i64 a.kd, .bool a.n1, .slice a.a1 a.k1 a.c1, .bool a.n2, .slice a.a2 a.k2 a.c2, .slice a.xo a.kx a.cx, .slice a.yo a.ky a.cy, .slice a.ro a.kr a.cr]] w (Looked b w)) :
    Calls Tryz.prog 76 #[.int .i64 i, .func (.func 74) #[] #[], .pointer (some ⟨g, 0, none⟩), .pointer (some ⟨g', 0, none⟩)] w (Looked b w) := by
  obtain ⟨x0, x1, x2, x3⟩ := bP.c
  have xl := bP.lt
  obtain ⟨y0, y1, y2, y3, y4, y5, y6, y7⟩ := bA.c
  have yl := bA.lt
  have HC := hid hc
  clear hc
  go_enter Tryz.func76, Tryz.ntmps76
  go_wp2_with fail
  clear x0 x1 x2 x3 xl y0 y1 y2 y3 y4 y5 y6 y7 yl
  refine HC.out.mono ?_
  rintro e w1 ⟨rfl, hb⟩
  have HR := hid hb
  clear hb
  go_wp2
  go_ret
  exact ⟨rfl, HR.out⟩

end Go.Proofs.YtmnlggmdomcajaaGreat
