/-
  Whether an answer holds: the program's own.
-/
import Derived.Test.YtmnlggmdomcajaaGreatL13
namespace Go.Proofs.YtmnlggmdomcajaaGreat
open Go.RowKit Lm
set_option linter.unusedSimpArgs false
set_option linter.unusedVariables false
set_option maxRecDepth 100000

theorem heap_keep {W W' : World} {g : Nat} {x : Obj} (h : W.heap[g]? = some x) (hb : Below W.heap.size W W') : W'.heap[g]? = some x :=
  (hb.block g (Array.getElem?_eq_some_iff.1 h).1).trans h
theorem below1 (W : World) (o : Obj) : Below W.heap.size W (W.alloc o) := (Below.refl _ _).alloc (Nat.le_refl _) o

set_option maxHeartbeats 3200000 in
theorem holdsC_any (w : World) (p : LPd) (a : Ansd) (hp : p.At w) (ha : a.At w) :
    Calls Tryz.prog 31 #[.agg #[.int .i64 p.n, .slice p.ao p.ka p.ca, .slice p.bo p.kb p.cb, .slice p.co p.kc p.cc], .agg #[.int .i64 a.kd, .bool a.n1, .slice a.a1 a.k1 a.c1, .bool a.n2, .slice a.a2 a.k2 a.c2, .slice a.xo a.kx a.cx, .slice a.yo a.ky a.cy, .slice a.ro a.kr a.cr]] w (Looked (holdsB p a p.n.toNat) w) := by
  have hW0 : Below w.heap.size w ((((((w.alloc (.cells #[.int .i64 p.n, .slice p.ao p.ka p.ca, .slice p.bo p.kb p.cb, .slice p.co p.kc p.cc] 43)).alloc (.cells #[.int .i64 a.kd, .bool a.n1, .slice a.a1 a.k1 a.c1, .bool a.n2, .slice a.a2 a.k2 a.c2, .slice a.xo a.kx a.cx, .slice a.yo a.ky a.cy, .slice a.ro a.kr a.cr] 46)).alloc (.cells #[.func (.func 62) #[] #[], .func (.func 63) #[] #[], .func (.func 64) #[] #[], .func (.func 65) #[] #[], .func (.func 66) #[] #[], .func (.func 67) #[] #[]] 84)).alloc (.cells #[.func (.func 63) #[] #[], .func (.func 68) #[] #[], .func (.func 69) #[] #[], .func (.func 70) #[] #[], .func (.func 67) #[] #[], .func (.func 71) #[] #[]] 84)).alloc (.cells #[.func (.func 62) #[] #[], .func (.func 72) #[] #[], .func (.func 73) #[] #[], .func (.func 74) #[] #[], .func (.func 71) #[] #[]] 84)).alloc (.cells #[.int .i64 1, .slice (some ⟨w.heap.size + 1 + 1, 0, none⟩) 6 6, .int .i64 2, .slice (some ⟨w.heap.size + 1 + 1 + 1, 0, none⟩) 6 6, .int .i64 3, .slice (some ⟨w.heap.size + 1 + 1 + 1 + 1, 0, none⟩) 5 5] 81)) := (by repeat (first | exact Below.refl _ _ | refine Below.alloc ?_ ?_ _ | refine Below.setCell ?_ ?_ _ | refine Below.drew ?_ | refine below_drewN ?_ _ | (· simp) | omega | (· simp; omega) | exact Below.size (by assumption) | assumption | refine below_call ?_ (by assumption) ?_))
  have e0 : ((w.alloc (.cells #[.int .i64 p.n, .slice p.ao p.ka p.ca, .slice p.bo p.kb p.cb, .slice p.co p.kc p.cc] 43)).alloc (.cells #[.int .i64 a.kd, .bool a.n1, .slice a.a1 a.k1 a.c1, .bool a.n2, .slice a.a2 a.k2 a.c2, .slice a.xo a.kx a.cx, .slice a.yo a.ky a.cy, .slice a.ro a.kr a.cr] 46)).heap.size = w.heap.size + 1 + 1 := by simp
  have e1 : (((w.alloc (.cells #[.int .i64 p.n, .slice p.ao p.ka p.ca, .slice p.bo p.kb p.cb, .slice p.co p.kc p.cc] 43)).alloc (.cells #[.int .i64 a.kd, .bool a.n1, .slice a.a1 a.k1 a.c1, .bool a.n2, .slice a.a2 a.k2 a.c2, .slice a.xo a.kx a.cx, .slice a.yo a.ky a.cy, .slice a.ro a.kr a.cr] 46)).alloc (.cells #[.func (.func 62) #[] #[], .func (.func 63) #[] #[], .func (.func 64) #[] #[], .func (.func 65) #[] #[], .func (.func 66) #[] #[], .func (.func 67) #[] #[]] 84)).heap.size = w.heap.size + 1 + 1 + 1 := by simp
  have e2 : ((((w.alloc (.cells #[.int .i64 p.n, .slice p.ao p.ka p.ca, .slice p.bo p.kb p.cb, .slice p.co p.kc p.cc] 43)).alloc (.cells #[.int .i64 a.kd, .bool a.n1, .slice a.a1 a.k1 a.c1, .bool a.n2, .slice a.a2 a.k2 a.c2, .slice a.xo a.kx a.cx, .slice a.yo a.ky a.cy, .slice a.ro a.kr a.cr] 46)).alloc (.cells #[.func (.func 62) #[] #[], .func (.func 63) #[] #[], .func (.func 64) #[] #[], .func (.func 65) #[] #[], .func (.func 66) #[] #[], .func (.func 67) #[] #[]] 84)).alloc (.cells #[.func (.func 63) #[] #[], .func (.func 68) #[] #[], .func (.func 69) #[] #[], .func (.func 70) #[] #[], .func (.func 67) #[] #[], .func (.func 71) #[] #[]] 84)).heap.size = w.heap.size + 1 + 1 + 1 + 1 := by simp
  have e3 : (((((w.alloc (.cells #[.int .i64 p.n, .slice p.ao p.ka p.ca, .slice p.bo p.kb p.cb, .slice p.co p.kc p.cc] 43)).alloc (.cells #[.int .i64 a.kd, .bool a.n1, .slice a.a1 a.k1 a.c1, .bool a.n2, .slice a.a2 a.k2 a.c2, .slice a.xo a.kx a.cx, .slice a.yo a.ky a.cy, .slice a.ro a.kr a.cr] 46)).alloc (.cells #[.func (.func 62) #[] #[], .func (.func 63) #[] #[], .func (.func 64) #[] #[], .func (.func 65) #[] #[], .func (.func 66) #[] #[], .func (.func 67) #[] #[]] 84)).alloc (.cells #[.func (.func 63) #[] #[], .func (.func 68) #[] #[], .func (.func 69) #[] #[], .func (.func 70) #[] #[], .func (.func 67) #[] #[], .func (.func 71) #[] #[]] 84)).alloc (.cells #[.func (.func 62) #[] #[], .func (.func 72) #[] #[], .func (.func 73) #[] #[], .func (.func 74) #[] #[], .func (.func 71) #[] #[]] 84)).heap.size = w.heap.size + 1 + 1 + 1 + 1 + 1 := by simp
  have h34 := below1 (((((w.alloc (.cells #[.int .i64 p.n, .slice p.ao p.ka p.ca, .slice p.bo p.kb p.cb, .slice p.co p.kc p.cc] 43)).alloc (.cells #[.int .i64 a.kd, .bool a.n1, .slice a.a1 a.k1 a.c1, .bool a.n2, .slice a.a2 a.k2 a.c2, .slice a.xo a.kx a.cx, .slice a.yo a.ky a.cy, .slice a.ro a.kr a.cr] 46)).alloc (.cells #[.func (.func 62) #[] #[], .func (.func 63) #[] #[], .func (.func 64) #[] #[], .func (.func 65) #[] #[], .func (.func 66) #[] #[], .func (.func 67) #[] #[]] 84)).alloc (.cells #[.func (.func 63) #[] #[], .func (.func 68) #[] #[], .func (.func 69) #[] #[], .func (.func 70) #[] #[], .func (.func 67) #[] #[], .func (.func 71) #[] #[]] 84)).alloc (.cells #[.func (.func 62) #[] #[], .func (.func 72) #[] #[], .func (.func 73) #[] #[], .func (.func 74) #[] #[], .func (.func 71) #[] #[]] 84)) (.cells #[.int .i64 1, .slice (some ⟨w.heap.size + 1 + 1, 0, none⟩) 6 6, .int .i64 2, .slice (some ⟨w.heap.size + 1 + 1 + 1, 0, none⟩) 6 6, .int .i64 3, .slice (some ⟨w.heap.size + 1 + 1 + 1 + 1, 0, none⟩) 5 5] 81)
  have h24 := below_call (below1 ((((w.alloc (.cells #[.int .i64 p.n, .slice p.ao p.ka p.ca, .slice p.bo p.kb p.cb, .slice p.co p.kc p.cc] 43)).alloc (.cells #[.int .i64 a.kd, .bool a.n1, .slice a.a1 a.k1 a.c1, .bool a.n2, .slice a.a2 a.k2 a.c2, .slice a.xo a.kx a.cx, .slice a.yo a.ky a.cy, .slice a.ro a.kr a.cr] 46)).alloc (.cells #[.func (.func 62) #[] #[], .func (.func 63) #[] #[], .func (.func 64) #[] #[], .func (.func 65) #[] #[], .func (.func 66) #[] #[], .func (.func 67) #[] #[]] 84)).alloc (.cells #[.func (.func 63) #[] #[], .func (.func 68) #[] #[], .func (.func 69) #[] #[], .func (.func 70) #[] #[], .func (.func 67) #[] #[], .func (.func 71) #[] #[]] 84)) (.cells #[.func (.func 62) #[] #[], .func (.func 72) #[] #[], .func (.func 73) #[] #[], .func (.func 74) #[] #[], .func (.func 71) #[] #[]] 84)) h34 (below1 ((((w.alloc (.cells #[.int .i64 p.n, .slice p.ao p.ka p.ca, .slice p.bo p.kb p.cb, .slice p.co p.kc p.cc] 43)).alloc (.cells #[.int .i64 a.kd, .bool a.n1, .slice a.a1 a.k1 a.c1, .bool a.n2, .slice a.a2 a.k2 a.c2, .slice a.xo a.kx a.cx, .slice a.yo a.ky a.cy, .slice a.ro a.kr a.cr] 46)).alloc (.cells #[.func (.func 62) #[] #[], .func (.func 63) #[] #[], .func (.func 64) #[] #[], .func (.func 65) #[] #[], .func (.func 66) #[] #[], .func (.func 67) #[] #[]] 84)).alloc (.cells #[.func (.func 63) #[] #[], .func (.func 68) #[] #[], .func (.func 69) #[] #[], .func (.func 70) #[] #[], .func (.func 67) #[] #[], .func (.func 71) #[] #[]] 84)) (.cells #[.func (.func 62) #[] #[], .func (.func 72) #[] #[], .func (.func 73) #[] #[], .func (.func 74) #[] #[], .func (.func 71) #[] #[]] 84)).size
  have h14 := below_call (below1 (((w.alloc (.cells #[.int .i64 p.n, .slice p.ao p.ka p.ca, .slice p.bo p.kb p.cb, .slice p.co p.kc p.cc] 43)).alloc (.cells #[.int .i64 a.kd, .bool a.n1, .slice a.a1 a.k1 a.c1, .bool a.n2, .slice a.a2 a.k2 a.c2, .slice a.xo a.kx a.cx, .slice a.yo a.ky a.cy, .slice a.ro a.kr a.cr] 46)).alloc (.cells #[.func (.func 62) #[] #[], .func (.func 63) #[] #[], .func (.func 64) #[] #[], .func (.func 65) #[] #[], .func (.func 66) #[] #[], .func (.func 67) #[] #[]] 84)) (.cells #[.func (.func 63) #[] #[], .func (.func 68) #[] #[], .func (.func 69) #[] #[], .func (.func 70) #[] #[], .func (.func 67) #[] #[], .func (.func 71) #[] #[]] 84)) h24 (below1 (((w.alloc (.cells #[.int .i64 p.n, .slice p.ao p.ka p.ca, .slice p.bo p.kb p.cb, .slice p.co p.kc p.cc] 43)).alloc (.cells #[.int .i64 a.kd, .bool a.n1, .slice a.a1 a.k1 a.c1, .bool a.n2, .slice a.a2 a.k2 a.c2, .slice a.xo a.kx a.cx, .slice a.yo a.ky a.cy, .slice a.ro a.kr a.cr] 46)).alloc (.cells #[.func (.func 62) #[] #[], .func (.func 63) #[] #[], .func (.func 64) #[] #[], .func (.func 65) #[] #[], .func (.func 66) #[] #[], .func (.func 67) #[] #[]] 84)) (.cells #[.func (.func 63) #[] #[], .func (.func 68) #[] #[], .func (.func 69) #[] #[], .func (.func 70) #[] #[], .func (.func 67) #[] #[], .func (.func 71) #[] #[]] 84)).size
  have h04 := below_call (below1 ((w.alloc (.cells #[.int .i64 p.n, .slice p.ao p.ka p.ca, .slice p.bo p.kb p.cb, .slice p.co p.kc p.cc] 43)).alloc (.cells #[.int .i64 a.kd, .bool a.n1, .slice a.a1 a.k1 a.c1, .bool a.n2, .slice a.a2 a.k2 a.c2, .slice a.xo a.kx a.cx, .slice a.yo a.ky a.cy, .slice a.ro a.kr a.cr] 46)) (.cells #[.func (.func 62) #[] #[], .func (.func 63) #[] #[], .func (.func 64) #[] #[], .func (.func 65) #[] #[], .func (.func 66) #[] #[], .func (.func 67) #[] #[]] 84)) h14 (below1 ((w.alloc (.cells #[.int .i64 p.n, .slice p.ao p.ka p.ca, .slice p.bo p.kb p.cb, .slice p.co p.kc p.cc] 43)).alloc (.cells #[.int .i64 a.kd, .bool a.n1, .slice a.a1 a.k1 a.c1, .bool a.n2, .slice a.a2 a.k2 a.c2, .slice a.xo a.kx a.cx, .slice a.yo a.ky a.cy, .slice a.ro a.kr a.cr] 46)) (.cells #[.func (.func 62) #[] #[], .func (.func 63) #[] #[], .func (.func 64) #[] #[], .func (.func 65) #[] #[], .func (.func 66) #[] #[], .func (.func 67) #[] #[]] 84)).size
  have bP : BoxL ((((((w.alloc (.cells #[.int .i64 p.n, .slice p.ao p.ka p.ca, .slice p.bo p.kb p.cb, .slice p.co p.kc p.cc] 43)).alloc (.cells #[.int .i64 a.kd, .bool a.n1, .slice a.a1 a.k1 a.c1, .bool a.n2, .slice a.a2 a.k2 a.c2, .slice a.xo a.kx a.cx, .slice a.yo a.ky a.cy, .slice a.ro a.kr a.cr] 46)).alloc (.cells #[.func (.func 62) #[] #[], .func (.func 63) #[] #[], .func (.func 64) #[] #[], .func (.func 65) #[] #[], .func (.func 66) #[] #[], .func (.func 67) #[] #[]] 84)).alloc (.cells #[.func (.func 63) #[] #[], .func (.func 68) #[] #[], .func (.func 69) #[] #[], .func (.func 70) #[] #[], .func (.func 67) #[] #[], .func (.func 71) #[] #[]] 84)).alloc (.cells #[.func (.func 62) #[] #[], .func (.func 72) #[] #[], .func (.func 73) #[] #[], .func (.func 74) #[] #[], .func (.func 71) #[] #[]] 84)).alloc (.cells #[.int .i64 1, .slice (some ⟨w.heap.size + 1 + 1, 0, none⟩) 6 6, .int .i64 2, .slice (some ⟨w.heap.size + 1 + 1 + 1, 0, none⟩) 6 6, .int .i64 3, .slice (some ⟨w.heap.size + 1 + 1 + 1 + 1, 0, none⟩) 5 5] 81)) w.heap.size (.int .i64 p.n) (.slice p.ao p.ka p.ca) (.slice p.bo p.kb p.cb) (.slice p.co p.kc p.cc) := ((BoxL.new w _ _ _ _ _ rfl).keep (below1 _ _)).keep h04
  have bA : BoxA ((((((w.alloc (.cells #[.int .i64 p.n, .slice p.ao p.ka p.ca, .slice p.bo p.kb p.cb, .slice p.co p.kc p.cc] 43)).alloc (.cells #[.int .i64 a.kd, .bool a.n1, .slice a.a1 a.k1 a.c1, .bool a.n2, .slice a.a2 a.k2 a.c2, .slice a.xo a.kx a.cx, .slice a.yo a.ky a.cy, .slice a.ro a.kr a.cr] 46)).alloc (.cells #[.func (.func 62) #[] #[], .func (.func 63) #[] #[], .func (.func 64) #[] #[], .func (.func 65) #[] #[], .func (.func 66) #[] #[], .func (.func 67) #[] #[]] 84)).alloc (.cells #[.func (.func 63) #[] #[], .func (.func 68) #[] #[], .func (.func 69) #[] #[], .func (.func 70) #[] #[], .func (.func 67) #[] #[], .func (.func 71) #[] #[]] 84)).alloc (.cells #[.func (.func 62) #[] #[], .func (.func 72) #[] #[], .func (.func 73) #[] #[], .func (.func 74) #[] #[], .func (.func 71) #[] #[]] 84)).alloc (.cells #[.int .i64 1, .slice (some ⟨w.heap.size + 1 + 1, 0, none⟩) 6 6, .int .i64 2, .slice (some ⟨w.heap.size + 1 + 1 + 1, 0, none⟩) 6 6, .int .i64 3, .slice (some ⟨w.heap.size + 1 + 1 + 1 + 1, 0, none⟩) 5 5] 81)) (w.heap.size + 1) a := (BoxA.new _ a _ (by simp)).keep h04
  have k1 := heap_keep (heap_alloc_new ((w.alloc (.cells #[.int .i64 p.n, .slice p.ao p.ka p.ca, .slice p.bo p.kb p.cb, .slice p.co p.kc p.cc] 43)).alloc (.cells #[.int .i64 a.kd, .bool a.n1, .slice a.a1 a.k1 a.c1, .bool a.n2, .slice a.a2 a.k2 a.c2, .slice a.xo a.kx a.cx, .slice a.yo a.ky a.cy, .slice a.ro a.kr a.cr] 46)) (.cells #[.func (.func 62) #[] #[], .func (.func 63) #[] #[], .func (.func 64) #[] #[], .func (.func 65) #[] #[], .func (.func 66) #[] #[], .func (.func 67) #[] #[]] 84)) h14
  have k2 := heap_keep (heap_alloc_new (((w.alloc (.cells #[.int .i64 p.n, .slice p.ao p.ka p.ca, .slice p.bo p.kb p.cb, .slice p.co p.kc p.cc] 43)).alloc (.cells #[.int .i64 a.kd, .bool a.n1, .slice a.a1 a.k1 a.c1, .bool a.n2, .slice a.a2 a.k2 a.c2, .slice a.xo a.kx a.cx, .slice a.yo a.ky a.cy, .slice a.ro a.kr a.cr] 46)).alloc (.cells #[.func (.func 62) #[] #[], .func (.func 63) #[] #[], .func (.func 64) #[] #[], .func (.func 65) #[] #[], .func (.func 66) #[] #[], .func (.func 67) #[] #[]] 84)) (.cells #[.func (.func 63) #[] #[], .func (.func 68) #[] #[], .func (.func 69) #[] #[], .func (.func 70) #[] #[], .func (.func 67) #[] #[], .func (.func 71) #[] #[]] 84)) h24
  have k3 := heap_keep (heap_alloc_new ((((w.alloc (.cells #[.int .i64 p.n, .slice p.ao p.ka p.ca, .slice p.bo p.kb p.cb, .slice p.co p.kc p.cc] 43)).alloc (.cells #[.int .i64 a.kd, .bool a.n1, .slice a.a1 a.k1 a.c1, .bool a.n2, .slice a.a2 a.k2 a.c2, .slice a.xo a.kx a.cx, .slice a.yo a.ky a.cy, .slice a.ro a.kr a.cr] 46)).alloc (.cells #[.func (.func 62) #[] #[], .func (.func 63) #[] #[], .func (.func 64) #[] #[], .func (.func 65) #[] #[], .func (.func 66) #[] #[], .func (.func 67) #[] #[]] 84)).alloc (.cells #[.func (.func 63) #[] #[], .func (.func 68) #[] #[], .func (.func 69) #[] #[], .func (.func 70) #[] #[], .func (.func 67) #[] #[], .func (.func 71) #[] #[]] 84)) (.cells #[.func (.func 62) #[] #[], .func (.func 72) #[] #[], .func (.func 73) #[] #[], .func (.func 74) #[] #[], .func (.func 71) #[] #[]] 84)) h34
  have k4 := heap_alloc_new (((((w.alloc (.cells #[.int .i64 p.n, .slice p.ao p.ka p.ca, .slice p.bo p.kb p.cb, .slice p.co p.kc p.cc] 43)).alloc (.cells #[.int .i64 a.kd, .bool a.n1, .slice a.a1 a.k1 a.c1, .bool a.n2, .slice a.a2 a.k2 a.c2, .slice a.xo a.kx a.cx, .slice a.yo a.ky a.cy, .slice a.ro a.kr a.cr] 46)).alloc (.cells #[.func (.func 62) #[] #[], .func (.func 63) #[] #[], .func (.func 64) #[] #[], .func (.func 65) #[] #[], .func (.func 66) #[] #[], .func (.func 67) #[] #[]] 84)).alloc (.cells #[.func (.func 63) #[] #[], .func (.func 68) #[] #[], .func (.func 69) #[] #[], .func (.func 70) #[] #[], .func (.func 67) #[] #[], .func (.func 71) #[] #[]] 84)).alloc (.cells #[.func (.func 62) #[] #[], .func (.func 72) #[] #[], .func (.func 73) #[] #[], .func (.func 74) #[] #[], .func (.func 71) #[] #[]] 84)) (.cells #[.int .i64 1, .slice (some ⟨w.heap.size + 1 + 1, 0, none⟩) 6 6, .int .i64 2, .slice (some ⟨w.heap.size + 1 + 1 + 1, 0, none⟩) 6 6, .int .i64 3, .slice (some ⟨w.heap.size + 1 + 1 + 1 + 1, 0, none⟩) 5 5] 81)
  rw [e0] at k1
  rw [e1] at k2
  rw [e2] at k3
  rw [e3] at k4
  have HP := hid (hp.below hW0)
  have HA := hid (ha.below hW0)
  have HW := hid hW0
  have fkb := hp.b.len.2
  have fkc := hp.c.len.2
  clear hp ha hW0 h34 h24 h14 h04 e0 e1 e2 e3
  go_enter Tryz.func31, Tryz.ntmps31
  go_wp2
  have t1 := hid (show ∀ i, i < 6 → ((((((w.alloc (.cells #[.int .i64 p.n, .slice p.ao p.ka p.ca, .slice p.bo p.kb p.cb, .slice p.co p.kc p.cc] 43)).alloc (.cells #[.int .i64 a.kd, .bool a.n1, .slice a.a1 a.k1 a.c1, .bool a.n2, .slice a.a2 a.k2 a.c2, .slice a.xo a.kx a.cx, .slice a.yo a.ky a.cy, .slice a.ro a.kr a.cr] 46)).alloc (.cells #[.func (.func 62) #[] #[], .func (.func 63) #[] #[], .func (.func 64) #[] #[], .func (.func 65) #[] #[], .func (.func 66) #[] #[], .func (.func 67) #[] #[]] 84)).alloc (.cells #[.func (.func 63) #[] #[], .func (.func 68) #[] #[], .func (.func 69) #[] #[], .func (.func 70) #[] #[], .func (.func 67) #[] #[], .func (.func 71) #[] #[]] 84)).alloc (.cells #[.func (.func 62) #[] #[], .func (.func 72) #[] #[], .func (.func 73) #[] #[], .func (.func 74) #[] #[], .func (.func 71) #[] #[]] 84)).alloc (.cells #[.int .i64 1, .slice (some ⟨w.heap.size + 1 + 1, 0, none⟩) 6 6, .int .i64 2, .slice (some ⟨w.heap.size + 1 + 1 + 1, 0, none⟩) 6 6, .int .i64 3, .slice (some ⟨w.heap.size + 1 + 1 + 1 + 1, 0, none⟩) 5 5] 81)).cell? ⟨w.heap.size + 1 + 1, i, none⟩ = some (l1F i) from fun i hi => by
    rcases (show i = 0 ∨ i = 1 ∨ i = 2 ∨ i = 3 ∨ i = 4 ∨ i = 5 by omega) with rfl | rfl | rfl | rfl | rfl | rfl <;> (rw [cell_of_row _ _ _ _ _ _ k1]; rfl))
  have t2 := hid (show ∀ i, i < 6 → ((((((w.alloc (.cells #[.int .i64 p.n, .slice p.ao p.ka p.ca, .slice p.bo p.kb p.cb, .slice p.co p.kc p.cc] 43)).alloc (.cells #[.int .i64 a.kd, .bool a.n1, .slice a.a1 a.k1 a.c1, .bool a.n2, .slice a.a2 a.k2 a.c2, .slice a.xo a.kx a.cx, .slice a.yo a.ky a.cy, .slice a.ro a.kr a.cr] 46)).alloc (.cells #[.func (.func 62) #[] #[], .func (.func 63) #[] #[], .func (.func 64) #[] #[], .func (.func 65) #[] #[], .func (.func 66) #[] #[], .func (.func 67) #[] #[]] 84)).alloc (.cells #[.func (.func 63) #[] #[], .func (.func 68) #[] #[], .func (.func 69) #[] #[], .func (.func 70) #[] #[], .func (.func 67) #[] #[], .func (.func 71) #[] #[]] 84)).alloc (.cells #[.func (.func 62) #[] #[], .func (.func 72) #[] #[], .func (.func 73) #[] #[], .func (.func 74) #[] #[], .func (.func 71) #[] #[]] 84)).alloc (.cells #[.int .i64 1, .slice (some ⟨w.heap.size + 1 + 1, 0, none⟩) 6 6, .int .i64 2, .slice (some ⟨w.heap.size + 1 + 1 + 1, 0, none⟩) 6 6, .int .i64 3, .slice (some ⟨w.heap.size + 1 + 1 + 1 + 1, 0, none⟩) 5 5] 81)).cell? ⟨w.heap.size + 1 + 1 + 1, i, none⟩ = some (l2F i) from fun i hi => by
    rcases (show i = 0 ∨ i = 1 ∨ i = 2 ∨ i = 3 ∨ i = 4 ∨ i = 5 by omega) with rfl | rfl | rfl | rfl | rfl | rfl <;> (rw [cell_of_row _ _ _ _ _ _ k2]; rfl))
  have t3 := hid (show ∀ i, i < 5 → ((((((w.alloc (.cells #[.int .i64 p.n, .slice p.ao p.ka p.ca, .slice p.bo p.kb p.cb, .slice p.co p.kc p.cc] 43)).alloc (.cells #[.int .i64 a.kd, .bool a.n1, .slice a.a1 a.k1 a.c1, .bool a.n2, .slice a.a2 a.k2 a.c2, .slice a.xo a.kx a.cx, .slice a.yo a.ky a.cy, .slice a.ro a.kr a.cr] 46)).alloc (.cells #[.func (.func 62) #[] #[], .func (.func 63) #[] #[], .func (.func 64) #[] #[], .func (.func 65) #[] #[], .func (.func 66) #[] #[], .func (.func 67) #[] #[]] 84)).alloc (.cells #[.func (.func 63) #[] #[], .func (.func 68) #[] #[], .func (.func 69) #[] #[], .func (.func 70) #[] #[], .func (.func 67) #[] #[], .func (.func 71) #[] #[]] 84)).alloc (.cells #[.func (.func 62) #[] #[], .func (.func 72) #[] #[], .func (.func 73) #[] #[], .func (.func 74) #[] #[], .func (.func 71) #[] #[]] 84)).alloc (.cells #[.int .i64 1, .slice (some ⟨w.heap.size + 1 + 1, 0, none⟩) 6 6, .int .i64 2, .slice (some ⟨w.heap.size + 1 + 1 + 1, 0, none⟩) 6 6, .int .i64 3, .slice (some ⟨w.heap.size + 1 + 1 + 1 + 1, 0, none⟩) 5 5] 81)).cell? ⟨w.heap.size + 1 + 1 + 1 + 1, i, none⟩ = some (l3F i) from fun i hi => by
    rcases (show i = 0 ∨ i = 1 ∨ i = 2 ∨ i = 3 ∨ i = 4 by omega) with rfl | rfl | rfl | rfl | rfl <;> (rw [cell_of_row _ _ _ _ _ _ k3]; rfl))
  have c0 : ((((((w.alloc (.cells #[.int .i64 p.n, .slice p.ao p.ka p.ca, .slice p.bo p.kb p.cb, .slice p.co p.kc p.cc] 43)).alloc (.cells #[.int .i64 a.kd, .bool a.n1, .slice a.a1 a.k1 a.c1, .bool a.n2, .slice a.a2 a.k2 a.c2, .slice a.xo a.kx a.cx, .slice a.yo a.ky a.cy, .slice a.ro a.kr a.cr] 46)).alloc (.cells #[.func (.func 62) #[] #[], .func (.func 63) #[] #[], .func (.func 64) #[] #[], .func (.func 65) #[] #[], .func (.func 66) #[] #[], .func (.func 67) #[] #[]] 84)).alloc (.cells #[.func (.func 63) #[] #[], .func (.func 68) #[] #[], .func (.func 69) #[] #[], .func (.func 70) #[] #[], .func (.func 67) #[] #[], .func (.func 71) #[] #[]] 84)).alloc (.cells #[.func (.func 62) #[] #[], .func (.func 72) #[] #[], .func (.func 73) #[] #[], .func (.func 74) #[] #[], .func (.func 71) #[] #[]] 84)).alloc (.cells #[.int .i64 1, .slice (some ⟨w.heap.size + 1 + 1, 0, none⟩) 6 6, .int .i64 2, .slice (some ⟨w.heap.size + 1 + 1 + 1, 0, none⟩) 6 6, .int .i64 3, .slice (some ⟨w.heap.size + 1 + 1 + 1 + 1, 0, none⟩) 5 5] 81)).cell? ⟨w.heap.size + 1 + 1 + 1 + 1 + 1, 0, none⟩ = some (.int .i64 1) := by rw [cell_of_row _ _ _ _ _ _ k4]; rfl
  have c1 : ((((((w.alloc (.cells #[.int .i64 p.n, .slice p.ao p.ka p.ca, .slice p.bo p.kb p.cb, .slice p.co p.kc p.cc] 43)).alloc (.cells #[.int .i64 a.kd, .bool a.n1, .slice a.a1 a.k1 a.c1, .bool a.n2, .slice a.a2 a.k2 a.c2, .slice a.xo a.kx a.cx, .slice a.yo a.ky a.cy, .slice a.ro a.kr a.cr] 46)).alloc (.cells #[.func (.func 62) #[] #[], .func (.func 63) #[] #[], .func (.func 64) #[] #[], .func (.func 65) #[] #[], .func (.func 66) #[] #[], .func (.func 67) #[] #[]] 84)).alloc (.cells #[.func (.func 63) #[] #[], .func (.func 68) #[] #[], .func (.func 69) #[] #[], .func (.func 70) #[] #[], .func (.func 67) #[] #[], .func (.func 71) #[] #[]] 84)).alloc (.cells #[.func (.func 62) #[] #[], .func (.func 72) #[] #[], .func (.func 73) #[] #[], .func (.func 74) #[] #[], .func (.func 71) #[] #[]] 84)).alloc (.cells #[.int .i64 1, .slice (some ⟨w.heap.size + 1 + 1, 0, none⟩) 6 6, .int .i64 2, .slice (some ⟨w.heap.size + 1 + 1 + 1, 0, none⟩) 6 6, .int .i64 3, .slice (some ⟨w.heap.size + 1 + 1 + 1 + 1, 0, none⟩) 5 5] 81)).cell? ⟨w.heap.size + 1 + 1 + 1 + 1 + 1, 1, none⟩ = some (.slice (some ⟨w.heap.size + 1 + 1, 0, none⟩) 6 6) := by rw [cell_of_row _ _ _ _ _ _ k4]; rfl
  have c2 : ((((((w.alloc (.cells #[.int .i64 p.n, .slice p.ao p.ka p.ca, .slice p.bo p.kb p.cb, .slice p.co p.kc p.cc] 43)).alloc (.cells #[.int .i64 a.kd, .bool a.n1, .slice a.a1 a.k1 a.c1, .bool a.n2, .slice a.a2 a.k2 a.c2, .slice a.xo a.kx a.cx, .slice a.yo a.ky a.cy, .slice a.ro a.kr a.cr] 46)).alloc (.cells #[.func (.func 62) #[] #[], .func (.func 63) #[] #[], .func (.func 64) #[] #[], .func (.func 65) #[] #[], .func (.func 66) #[] #[], .func (.func 67) #[] #[]] 84)).alloc (.cells #[.func (.func 63) #[] #[], .func (.func 68) #[] #[], .func (.func 69) #[] #[], .func (.func 70) #[] #[], .func (.func 67) #[] #[], .func (.func 71) #[] #[]] 84)).alloc (.cells #[.func (.func 62) #[] #[], .func (.func 72) #[] #[], .func (.func 73) #[] #[], .func (.func 74) #[] #[], .func (.func 71) #[] #[]] 84)).alloc (.cells #[.int .i64 1, .slice (some ⟨w.heap.size + 1 + 1, 0, none⟩) 6 6, .int .i64 2, .slice (some ⟨w.heap.size + 1 + 1 + 1, 0, none⟩) 6 6, .int .i64 3, .slice (some ⟨w.heap.size + 1 + 1 + 1 + 1, 0, none⟩) 5 5] 81)).cell? ⟨w.heap.size + 1 + 1 + 1 + 1 + 1, 2, none⟩ = some (.int .i64 2) := by rw [cell_of_row _ _ _ _ _ _ k4]; rfl
  have c3 : ((((((w.alloc (.cells #[.int .i64 p.n, .slice p.ao p.ka p.ca, .slice p.bo p.kb p.cb, .slice p.co p.kc p.cc] 43)).alloc (.cells #[.int .i64 a.kd, .bool a.n1, .slice a.a1 a.k1 a.c1, .bool a.n2, .slice a.a2 a.k2 a.c2, .slice a.xo a.kx a.cx, .slice a.yo a.ky a.cy, .slice a.ro a.kr a.cr] 46)).alloc (.cells #[.func (.func 62) #[] #[], .func (.func 63) #[] #[], .func (.func 64) #[] #[], .func (.func 65) #[] #[], .func (.func 66) #[] #[], .func (.func 67) #[] #[]] 84)).alloc (.cells #[.func (.func 63) #[] #[], .func (.func 68) #[] #[], .func (.func 69) #[] #[], .func (.func 70) #[] #[], .func (.func 67) #[] #[], .func (.func 71) #[] #[]] 84)).alloc (.cells #[.func (.func 62) #[] #[], .func (.func 72) #[] #[], .func (.func 73) #[] #[], .func (.func 74) #[] #[], .func (.func 71) #[] #[]] 84)).alloc (.cells #[.int .i64 1, .slice (some ⟨w.heap.size + 1 + 1, 0, none⟩) 6 6, .int .i64 2, .slice (some ⟨w.heap.size + 1 + 1 + 1, 0, none⟩) 6 6, .int .i64 3, .slice (some ⟨w.heap.size + 1 + 1 + 1 + 1, 0, none⟩) 5 5] 81)).cell? ⟨w.heap.size + 1 + 1 + 1 + 1 + 1, 3, none⟩ = some (.slice (some ⟨w.heap.size + 1 + 1 + 1, 0, none⟩) 6 6) := by rw [cell_of_row _ _ _ _ _ _ k4]; rfl
  have c4 : ((((((w.alloc (.cells #[.int .i64 p.n, .slice p.ao p.ka p.ca, .slice p.bo p.kb p.cb, .slice p.co p.kc p.cc] 43)).alloc (.cells #[.int .i64 a.kd, .bool a.n1, .slice a.a1 a.k1 a.c1, .bool a.n2, .slice a.a2 a.k2 a.c2, .slice a.xo a.kx a.cx, .slice a.yo a.ky a.cy, .slice a.ro a.kr a.cr] 46)).alloc (.cells #[.func (.func 62) #[] #[], .func (.func 63) #[] #[], .func (.func 64) #[] #[], .func (.func 65) #[] #[], .func (.func 66) #[] #[], .func (.func 67) #[] #[]] 84)).alloc (.cells #[.func (.func 63) #[] #[], .func (.func 68) #[] #[], .func (.func 69) #[] #[], .func (.func 70) #[] #[], .func (.func 67) #[] #[], .func (.func 71) #[] #[]] 84)).alloc (.cells #[.func (.func 62) #[] #[], .func (.func 72) #[] #[], .func (.func 73) #[] #[], .func (.func 74) #[] #[], .func (.func 71) #[] #[]] 84)).alloc (.cells #[.int .i64 1, .slice (some ⟨w.heap.size + 1 + 1, 0, none⟩) 6 6, .int .i64 2, .slice (some ⟨w.heap.size + 1 + 1 + 1, 0, none⟩) 6 6, .int .i64 3, .slice (some ⟨w.heap.size + 1 + 1 + 1 + 1, 0, none⟩) 5 5] 81)).cell? ⟨w.heap.size + 1 + 1 + 1 + 1 + 1, 4, none⟩ = some (.int .i64 3) := by rw [cell_of_row _ _ _ _ _ _ k4]; rfl
  have c5 : ((((((w.alloc (.cells #[.int .i64 p.n, .slice p.ao p.ka p.ca, .slice p.bo p.kb p.cb, .slice p.co p.kc p.cc] 43)).alloc (.cells #[.int .i64 a.kd, .bool a.n1, .slice a.a1 a.k1 a.c1, .bool a.n2, .slice a.a2 a.k2 a.c2, .slice a.xo a.kx a.cx, .slice a.yo a.ky a.cy, .slice a.ro a.kr a.cr] 46)).alloc (.cells #[.func (.func 62) #[] #[], .func (.func 63) #[] #[], .func (.func 64) #[] #[], .func (.func 65) #[] #[], .func (.func 66) #[] #[], .func (.func 67) #[] #[]] 84)).alloc (.cells #[.func (.func 63) #[] #[], .func (.func 68) #[] #[], .func (.func 69) #[] #[], .func (.func 70) #[] #[], .func (.func 67) #[] #[], .func (.func 71) #[] #[]] 84)).alloc (.cells #[.func (.func 62) #[] #[], .func (.func 72) #[] #[], .func (.func 73) #[] #[], .func (.func 74) #[] #[], .func (.func 71) #[] #[]] 84)).alloc (.cells #[.int .i64 1, .slice (some ⟨w.heap.size + 1 + 1, 0, none⟩) 6 6, .int .i64 2, .slice (some ⟨w.heap.size + 1 + 1 + 1, 0, none⟩) 6 6, .int .i64 3, .slice (some ⟨w.heap.size + 1 + 1 + 1 + 1, 0, none⟩) 5 5] 81)).cell? ⟨w.heap.size + 1 + 1 + 1 + 1 + 1, 5, none⟩ = some (.slice (some ⟨w.heap.size + 1 + 1 + 1 + 1, 0, none⟩) 5 5) := by rw [cell_of_row _ _ _ _ _ _ k4]; rfl
  have l1 := hid (Array.getElem?_eq_some_iff.1 k1).1
  have l2 := hid (Array.getElem?_eq_some_iff.1 k2).1
  have l3 := hid (Array.getElem?_eq_some_iff.1 k3).1
  have l4 := hid (Array.getElem?_eq_some_iff.1 k4).1
  have C0 := hid c0
  have C1 := hid c1
  have C2 := hid c2
  have C3 := hid c3
  have C4 := hid c4
  have C5 := hid c5
  clear c0 c1 c2 c3 c4 c5 k1 k2 k3 k4
  generalize ((((((w.alloc (.cells #[.int .i64 p.n, .slice p.ao p.ka p.ca, .slice p.bo p.kb p.cb, .slice p.co p.kc p.cc] 43)).alloc (.cells #[.int .i64 a.kd, .bool a.n1, .slice a.a1 a.k1 a.c1, .bool a.n2, .slice a.a2 a.k2 a.c2, .slice a.xo a.kx a.cx, .slice a.yo a.ky a.cy, .slice a.ro a.kr a.cr] 46)).alloc (.cells #[.func (.func 62) #[] #[], .func (.func 63) #[] #[], .func (.func 64) #[] #[], .func (.func 65) #[] #[], .func (.func 66) #[] #[], .func (.func 67) #[] #[]] 84)).alloc (.cells #[.func (.func 63) #[] #[], .func (.func 68) #[] #[], .func (.func 69) #[] #[], .func (.func 70) #[] #[], .func (.func 67) #[] #[], .func (.func 71) #[] #[]] 84)).alloc (.cells #[.func (.func 62) #[] #[], .func (.func 72) #[] #[], .func (.func 73) #[] #[], .func (.func 74) #[] #[], .func (.func 71) #[] #[]] 84)).alloc (.cells #[.int .i64 1, .slice (some ⟨w.heap.size + 1 + 1, 0, none⟩) 6 6, .int .i64 2, .slice (some ⟨w.heap.size + 1 + 1 + 1, 0, none⟩) 6 6, .int .i64 3, .slice (some ⟨w.heap.size + 1 + 1 + 1 + 1, 0, none⟩) 5 5] 81)) = W0 at *
  go_loopw [17] (fun iv wr => ∃ i : Nat, i ≤ 3 ∧ iv = .int .i64 i ∧ (∀ j : Nat, j < i → a.kd ≠ (j : Int) + 1) ∧ Below W0.heap.size W0 wr) (fun iv wr => 3 - (intOf iv).toNat)
  case atStart => exact ⟨0, by omega, rfl, fun j hj => by omega, Below.refl _ _⟩
  case round =>
    obtain ⟨i, hik, rfl, hne, HBW⟩ := hrel
    rcases (show i = 0 ∨ i = 1 ∨ i = 2 ∨ i = 3 by omega) with rfl | rfl | rfl | rfl
    · have c0 := (bcells HBW _ _ l4.out).trans C0.out
      have c1 := (bcells HBW _ _ l4.out).trans C1.out
      have l4' : w.heap.size + 1 + 1 + 1 + 1 + 1 < wr.heap.size := Nat.lt_of_lt_of_le l4.out HBW.size
      obtain ⟨y0, y1, y2, y3, y4, y5, y6, y7⟩ := (bA.keep HBW).c
      have yl := (bA.keep HBW).lt
      obtain ⟨x0, x1, x2, x3⟩ := (bP.keep HBW).c
      have xl := (bP.keep HBW).lt
      have HB := hid HBW
      have HNE := hid hne
      clear HBW hne y1 y2 y3 y4 y5 y6 y7 hik
      by_cases hk : a.kd = 1
      · have hkb : ((1 : Int) == a.kd) = true := by simp [hk]
        have HK := hid hk
        clear hk
        go_wp2_with fail
        clear c0 c1 l4' y0 yl x0 x1 x2 x3 xl
        have HB1 := hid (HB.out.alloc HB.out.size (.cells #[.int .i64 1, .slice (some ⟨w.heap.size + 1 + 1, 0, none⟩) 6 6] 81))
        have bK := hid (heap_alloc_new wr (.cells #[.int .i64 1, .slice (some ⟨w.heap.size + 1 + 1, 0, none⟩) 6 6] 81))
        generalize wr.alloc (.cells #[.int .i64 1, .slice (some ⟨w.heap.size + 1 + 1, 0, none⟩) 6 6] 81) = W1 at *
        refine (lpRight_any _ p.n p.ao p.bo p.co p.ka p.ca p.kb p.cb p.kc p.cc 6 p.M HP.out.k (HP.out.a.below HB1.out) fkb fkc).mono ?_
        rintro e w2 ⟨rfl, hb2⟩
        have HB2 := hid (below_call HB1.out hb2 HB1.out.size)
        have bK2 := heap_keep bK.out hb2
        clear hb2
        cases hR : rightB p.n p.ka p.kb p.kc p.M
        · have HF : Hid (holdsB p a p.n.toNat = false) := hid (by rw [holdsB, hR]; rfl)
          have HR := hid (below_call HW.out HB2.out HW.out.size)
          clear hR bK2
          go_wp2
          go_ret
          exact ⟨ret_bool HF.out.symm, HR.out⟩
        · have HF : Hid (holdsB p a p.n.toNat = allB (l1B p a p.n.toNat) 6) := hid (by rw [holdsB, hR, if_pos HK.out]; rfl)
          have HRR := hid hR
          have hnn : p.n = (p.n.toNat : Int) := by have := (rightB_iff.1 hR).1; omega
          have k0 : w2.cell? ⟨wr.heap.size, 1, none⟩ = some (.slice (some ⟨w.heap.size + 1 + 1, 0, none⟩) 6 6) := by rw [cell_of_row _ _ _ _ _ _ bK2]; rfl
          have kl := (Array.getElem?_eq_some_iff.1 bK2).1
          have HNN := hid hnn
          clear hR bK2 hnn
          go_wp2_with fail
          refine (kind1_any w2 p a _ _ _ _ p.n.toNat HNN.out (HP.out.below HB2.out) (HA.out.below HB2.out) HRR.out (bP.keep HB2.out) (bA.keep HB2.out) (Nat.lt_of_lt_of_le l1.out HB2.out.size) (fun j hj => (bcells HB2.out _ _ l1.out).trans (t1.out j hj))).mono ?_
          rintro e w3 ⟨rfl, hb3⟩
          have HB3 := hid (below_call HB2.out hb3 HB2.out.size)
          have HR := hid (below_call HW.out HB3.out HW.out.size)
          obtain ⟨b, hb⟩ : ∃ b, allB (l1B p a p.n.toNat) 6 = b := ⟨_, rfl⟩
          have HBB := hid hb
          rw [hb]
          clear hb hb3 k0 kl
          go_wp2
          go_ret
          exact ⟨ret_bool (by rw [HF.out, HBB.out]), HR.out⟩
      · have hkb : ((1 : Int) == a.kd) = false := by simp; omega
        have HK := hid hk
        clear hk
        go_wp2
        go_roundw
        case rel =>
          refine ⟨1, by omega, by go_num, fun j hj => ?_, HB.out.alloc HB.out.size _⟩
          rcases (show j = 0 by omega) with rfl
          · exact fun h => HK.out (by rw [h]; rfl)
        case measure => simp [intOf]
    · have c0 := (bcells HBW _ _ l4.out).trans C2.out
      have c1 := (bcells HBW _ _ l4.out).trans C3.out
      have l4' : w.heap.size + 1 + 1 + 1 + 1 + 1 < wr.heap.size := Nat.lt_of_lt_of_le l4.out HBW.size
      obtain ⟨y0, y1, y2, y3, y4, y5, y6, y7⟩ := (bA.keep HBW).c
      have yl := (bA.keep HBW).lt
      obtain ⟨x0, x1, x2, x3⟩ := (bP.keep HBW).c
      have xl := (bP.keep HBW).lt
      have HB := hid HBW
      have HNE := hid hne
      clear HBW hne y1 y2 y3 y4 y5 y6 y7 hik
      by_cases hk : a.kd = 2
      · have hkb : ((2 : Int) == a.kd) = true := by simp [hk]
        have HK := hid hk
        clear hk
        go_wp2_with fail
        clear c0 c1 l4' y0 yl x0 x1 x2 x3 xl
        have HB1 := hid (HB.out.alloc HB.out.size (.cells #[.int .i64 2, .slice (some ⟨w.heap.size + 1 + 1 + 1, 0, none⟩) 6 6] 81))
        have bK := hid (heap_alloc_new wr (.cells #[.int .i64 2, .slice (some ⟨w.heap.size + 1 + 1 + 1, 0, none⟩) 6 6] 81))
        generalize wr.alloc (.cells #[.int .i64 2, .slice (some ⟨w.heap.size + 1 + 1 + 1, 0, none⟩) 6 6] 81) = W1 at *
        refine (lpRight_any _ p.n p.ao p.bo p.co p.ka p.ca p.kb p.cb p.kc p.cc 6 p.M HP.out.k (HP.out.a.below HB1.out) fkb fkc).mono ?_
        rintro e w2 ⟨rfl, hb2⟩
        have HB2 := hid (below_call HB1.out hb2 HB1.out.size)
        have bK2 := heap_keep bK.out hb2
        clear hb2
        cases hR : rightB p.n p.ka p.kb p.kc p.M
        · have HF : Hid (holdsB p a p.n.toNat = false) := hid (by rw [holdsB, hR]; rfl)
          have HR := hid (below_call HW.out HB2.out HW.out.size)
          clear hR bK2
          go_wp2
          go_ret
          exact ⟨ret_bool HF.out.symm, HR.out⟩
        · have HF : Hid (holdsB p a p.n.toNat = allB (l2B p a p.n.toNat) 6) := hid (by rw [holdsB, hR, if_neg (by have := HK.out; omega), if_pos HK.out]; rfl)
          have HRR := hid hR
          have hnn : p.n = (p.n.toNat : Int) := by have := (rightB_iff.1 hR).1; omega
          have k0 : w2.cell? ⟨wr.heap.size, 1, none⟩ = some (.slice (some ⟨w.heap.size + 1 + 1 + 1, 0, none⟩) 6 6) := by rw [cell_of_row _ _ _ _ _ _ bK2]; rfl
          have kl := (Array.getElem?_eq_some_iff.1 bK2).1
          have HNN := hid hnn
          clear hR bK2 hnn
          go_wp2_with fail
          refine (kind2_any w2 p a _ _ _ _ p.n.toNat HNN.out (HP.out.below HB2.out) (HA.out.below HB2.out) HRR.out (bP.keep HB2.out) (bA.keep HB2.out) (Nat.lt_of_lt_of_le l2.out HB2.out.size) (fun j hj => (bcells HB2.out _ _ l2.out).trans (t2.out j hj))).mono ?_
          rintro e w3 ⟨rfl, hb3⟩
          have HB3 := hid (below_call HB2.out hb3 HB2.out.size)
          have HR := hid (below_call HW.out HB3.out HW.out.size)
          obtain ⟨b, hb⟩ : ∃ b, allB (l2B p a p.n.toNat) 6 = b := ⟨_, rfl⟩
          have HBB := hid hb
          rw [hb]
          clear hb hb3 k0 kl
          go_wp2
          go_ret
          exact ⟨ret_bool (by rw [HF.out, HBB.out]), HR.out⟩
      · have hkb : ((2 : Int) == a.kd) = false := by simp; omega
        have HK := hid hk
        clear hk
        go_wp2
        go_roundw
        case rel =>
          refine ⟨2, by omega, by go_num, fun j hj => ?_, HB.out.alloc HB.out.size _⟩
          rcases (show j = 0 ∨ j = 1 by omega) with rfl | rfl
          · exact fun h => HNE.out 0 (by omega) h
          · exact fun h => HK.out (by rw [h]; rfl)
        case measure => simp [intOf]
    · have c0 := (bcells HBW _ _ l4.out).trans C4.out
      have c1 := (bcells HBW _ _ l4.out).trans C5.out
      have l4' : w.heap.size + 1 + 1 + 1 + 1 + 1 < wr.heap.size := Nat.lt_of_lt_of_le l4.out HBW.size
      obtain ⟨y0, y1, y2, y3, y4, y5, y6, y7⟩ := (bA.keep HBW).c
      have yl := (bA.keep HBW).lt
      obtain ⟨x0, x1, x2, x3⟩ := (bP.keep HBW).c
      have xl := (bP.keep HBW).lt
      have HB := hid HBW
      have HNE := hid hne
      clear HBW hne y1 y2 y3 y4 y5 y6 y7 hik
      by_cases hk : a.kd = 3
      · have hkb : ((3 : Int) == a.kd) = true := by simp [hk]
        have HK := hid hk
        clear hk
        go_wp2_with fail
        clear c0 c1 l4' y0 yl x0 x1 x2 x3 xl
        have HB1 := hid (HB.out.alloc HB.out.size (.cells #[.int .i64 3, .slice (some ⟨w.heap.size + 1 + 1 + 1 + 1, 0, none⟩) 5 5] 81))
        have bK := hid (heap_alloc_new wr (.cells #[.int .i64 3, .slice (some ⟨w.heap.size + 1 + 1 + 1 + 1, 0, none⟩) 5 5] 81))
        generalize wr.alloc (.cells #[.int .i64 3, .slice (some ⟨w.heap.size + 1 + 1 + 1 + 1, 0, none⟩) 5 5] 81) = W1 at *
        refine (lpRight_any _ p.n p.ao p.bo p.co p.ka p.ca p.kb p.cb p.kc p.cc 6 p.M HP.out.k (HP.out.a.below HB1.out) fkb fkc).mono ?_
        rintro e w2 ⟨rfl, hb2⟩
        have HB2 := hid (below_call HB1.out hb2 HB1.out.size)
        have bK2 := heap_keep bK.out hb2
        clear hb2
        cases hR : rightB p.n p.ka p.kb p.kc p.M
        · have HF : Hid (holdsB p a p.n.toNat = false) := hid (by rw [holdsB, hR]; rfl)
          have HR := hid (below_call HW.out HB2.out HW.out.size)
          clear hR bK2
          go_wp2
          go_ret
          exact ⟨ret_bool HF.out.symm, HR.out⟩
        · have HF : Hid (holdsB p a p.n.toNat = allB (l3B p a) 5) := hid (by rw [holdsB, hR, if_neg (by have := HK.out; omega), if_neg (by have := HK.out; omega), if_pos HK.out]; rfl)
          have HRR := hid hR
          have hnn : p.n = (p.n.toNat : Int) := by have := (rightB_iff.1 hR).1; omega
          have k0 : w2.cell? ⟨wr.heap.size, 1, none⟩ = some (.slice (some ⟨w.heap.size + 1 + 1 + 1 + 1, 0, none⟩) 5 5) := by rw [cell_of_row _ _ _ _ _ _ bK2]; rfl
          have kl := (Array.getElem?_eq_some_iff.1 bK2).1
          have HNN := hid hnn
          clear hR bK2 hnn
          go_wp2_with fail
          refine (kind3_any w2 p a _ _ _ _ HNN.out (HP.out.below HB2.out) (HA.out.below HB2.out) HRR.out (bP.keep HB2.out) (bA.keep HB2.out) (Nat.lt_of_lt_of_le l3.out HB2.out.size) (fun j hj => (bcells HB2.out _ _ l3.out).trans (t3.out j hj))).mono ?_
          rintro e w3 ⟨rfl, hb3⟩
          have HB3 := hid (below_call HB2.out hb3 HB2.out.size)
          have HR := hid (below_call HW.out HB3.out HW.out.size)
          obtain ⟨b, hb⟩ : ∃ b, allB (l3B p a) 5 = b := ⟨_, rfl⟩
          have HBB := hid hb
          rw [hb]
          clear hb hb3 k0 kl
          go_wp2
          go_ret
          exact ⟨ret_bool (by rw [HF.out, HBB.out]), HR.out⟩
      · have hkb : ((3 : Int) == a.kd) = false := by simp; omega
        have HK := hid hk
        clear hk
        go_wp2
        go_roundw
        case rel =>
          refine ⟨3, by omega, by go_num, fun j hj => ?_, HB.out.alloc HB.out.size _⟩
          rcases (show j = 0 ∨ j = 1 ∨ j = 2 by omega) with rfl | rfl | rfl
          · exact fun h => HNE.out 0 (by omega) h
          · exact fun h => HNE.out 1 (by omega) h
          · exact fun h => HK.out (by rw [h]; rfl)
        case measure => simp [intOf]
    · have HF : Hid (holdsB p a p.n.toNat = false) := hid (by
        have h0 := hne 0 (by omega)
        have h1 := hne 1 (by omega)
        have h2 := hne 2 (by omega)
        rw [holdsB, if_neg (by simpa using h0), if_neg (by simpa using h1), if_neg (by simpa using h2), Bool.and_false])
      have HR := hid (below_call HW.out HBW HW.out.size)
      clear hne HBW
      go_wp2
      go_ret
      exact ⟨ret_bool HF.out.symm, HR.out⟩

end Go.Proofs.YtmnlggmdomcajaaGreat
