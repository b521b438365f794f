/-
  Problems and answers as the looks have them; the looks that ask for one thing alone.
-/
import Derived.Test.YtmnlggmdomcajaaGreatL6
namespace Go.Proofs.YtmnlggmdomcajaaGreat
open Go.RowKit Lm
set_option linter.unusedSimpArgs false
set_option linter.unusedVariables false
set_option maxRecDepth 100000

/-- A problem as it is handed in, and what it means. -/
structure LPd where
  n : Int
  ao : Option Addr
  ka : Nat
  ca : Nat
  bo : Option Addr
  kb : Nat
  cb : Nat
  co : Option Addr
  kc : Nat
  cc : Nat
  M : List (List Rat)
  B : List Rat
  C : List Rat
structure LPd.At (p : LPd) (w : World) : Prop where
  k : p.ka = p.M.length
  a : QTab w p.ao p.ca 6 p.M
  b : QSl w (.slice p.bo p.kb p.cb) 6 p.B
  c : QSl w (.slice p.co p.kc p.cc) 6 p.C
theorem LPd.At.below {p : LPd} {w w' : World} (h : p.At w) (hb : Below w.heap.size w w') : p.At w' := ⟨h.k, h.a.below hb, h.b.below hb, h.c.below hb⟩
/-- An answer as it is handed in, and what it means. -/
structure Ansd where
  kd : Int
  n1 : Bool
  a1 : Option Addr
  k1 : Nat
  c1 : Nat
  n2 : Bool
  a2 : Option Addr
  k2 : Nat
  c2 : Nat
  xo : Option Addr
  kx : Nat
  cx : Nat
  yo : Option Addr
  ky : Nat
  cy : Nat
  ro : Option Addr
  kr : Nat
  cr : Nat
  V : Rat
  X : List Rat
  Y : List Rat
  R : List Rat
structure Ansd.At (a : Ansd) (w : World) : Prop where
  v : RArg w (.agg #[.bool a.n1, .slice a.a1 a.k1 a.c1, .bool a.n2, .slice a.a2 a.k2 a.c2]) 6 a.V
  x : QSl w (.slice a.xo a.kx a.cx) 6 a.X
  y : QSl w (.slice a.yo a.ky a.cy) 6 a.Y
  r : QSl w (.slice a.ro a.kr a.cr) 6 a.R
theorem Ansd.At.below {a : Ansd} {w w' : World} (h : a.At w) (hb : Below w.heap.size w w') : a.At w' := ⟨h.v.below hb, h.x.below hb, h.y.below hb, h.r.below hb⟩
/-- An answer in the heap. -/
def BoxA (w : World) (g : Nat) (a : Ansd) : Prop := w.heap[g]? = some (.cells #[.int .i64 a.kd, .bool a.n1, .slice a.a1 a.k1 a.c1, .bool a.n2, .slice a.a2 a.k2 a.c2, .slice a.xo a.kx a.cx, .slice a.yo a.ky a.cy, .slice a.ro a.kr a.cr] 46 (0, 0))
theorem BoxA.lt {w : World} {g : Nat} {a : Ansd} (h : BoxA w g a) : g < w.heap.size := (Array.getElem?_eq_some_iff.1 h).1
theorem BoxA.keep {w w' : World} {g : Nat} {a : Ansd} (h : BoxA w g a) (hb : Below w.heap.size w w') : BoxA w' g a := (hb.block g h.lt).trans h
theorem BoxA.new (w : World) (a : Ansd) (g : Nat) (hg : g = w.heap.size) : BoxA (w.alloc (.cells #[.int .i64 a.kd, .bool a.n1, .slice a.a1 a.k1 a.c1, .bool a.n2, .slice a.a2 a.k2 a.c2, .slice a.xo a.kx a.cx, .slice a.yo a.ky a.cy, .slice a.ro a.kr a.cr] 46)) g a := by subst hg; exact heap_alloc_new w _
theorem BoxA.c {w : World} {g : Nat} {a : Ansd} (h : BoxA w g a) : w.cell? ⟨g, 0, none⟩ = some (.int .i64 a.kd) ∧ w.cell? ⟨g, 1, none⟩ = some (.bool a.n1) ∧ w.cell? ⟨g, 2, none⟩ = some (.slice a.a1 a.k1 a.c1) ∧ w.cell? ⟨g, 3, none⟩ = some (.bool a.n2) ∧ w.cell? ⟨g, 4, none⟩ = some (.slice a.a2 a.k2 a.c2) ∧ w.cell? ⟨g, 5, none⟩ = some (.slice a.xo a.kx a.cx) ∧ w.cell? ⟨g, 6, none⟩ = some (.slice a.yo a.ky a.cy) ∧ w.cell? ⟨g, 7, none⟩ = some (.slice a.ro a.kr a.cr) :=
  ⟨by rw [cell_of_row _ _ _ _ _ _ h]; rfl, by rw [cell_of_row _ _ _ _ _ _ h]; rfl, by rw [cell_of_row _ _ _ _ _ _ h]; rfl, by rw [cell_of_row _ _ _ _ _ _ h]; rfl, by rw [cell_of_row _ _ _ _ _ _ h]; rfl, by rw [cell_of_row _ _ _ _ _ _ h]; rfl, by rw [cell_of_row _ _ _ _ _ _ h]; rfl, by rw [cell_of_row _ _ _ _ _ _ h]; rfl⟩
/-- What a look says. -/
def Looked (b : Bool) (w : World) (e : Ending) (w' : World) : Prop := e = .returned (.bool b) ∧ Below w.heap.size w w'

set_option maxHeartbeats 1600000 in
theorem noRay_any (w : World) (p : LPd) (a : Ansd) (hp : p.At w) (ha : a.At w) :
    Calls Tryz.prog 67 #[.agg #[.int .i64 p.n, .slice p.ao p.ka p.ca, .slice p.bo p.kb p.cb, .slice p.co p.kc p.cc], .agg #[.int .i64 a.kd, .bool a.n1, .slice a.a1 a.k1 a.c1, .bool a.n2, .slice a.a2 a.k2 a.c2, .slice a.xo a.kx a.cx, .slice a.yo a.ky a.cy, .slice a.ro a.kr a.cr]] w (Looked (((a.kr : Int) == 0)) w) := by
  have hW0 : Below w.heap.size w ((w.alloc (.cells #[.int .i64 p.n, .slice p.ao p.ka p.ca, .slice p.bo p.kb p.cb, .slice p.co p.kc p.cc] 43)).alloc (.cells #[.int .i64 a.kd, .bool a.n1, .slice a.a1 a.k1 a.c1, .bool a.n2, .slice a.a2 a.k2 a.c2, .slice a.xo a.kx a.cx, .slice a.yo a.ky a.cy, .slice a.ro a.kr a.cr] 46)) := (by repeat (first | exact Below.refl _ _ | refine Below.alloc ?_ ?_ _ | refine Below.setCell ?_ ?_ _ | refine Below.drew ?_ | refine below_drewN ?_ _ | (· simp) | omega | (· simp; omega) | exact Below.size (by assumption) | assumption | refine below_call ?_ (by assumption) ?_))
  have bP : BoxL ((w.alloc (.cells #[.int .i64 p.n, .slice p.ao p.ka p.ca, .slice p.bo p.kb p.cb, .slice p.co p.kc p.cc] 43)).alloc (.cells #[.int .i64 a.kd, .bool a.n1, .slice a.a1 a.k1 a.c1, .bool a.n2, .slice a.a2 a.k2 a.c2, .slice a.xo a.kx a.cx, .slice a.yo a.ky a.cy, .slice a.ro a.kr a.cr] 46)) w.heap.size (.int .i64 p.n) (.slice p.ao p.ka p.ca) (.slice p.bo p.kb p.cb) (.slice p.co p.kc p.cc) := (BoxL.new w _ _ _ _ _ rfl).keep ((Below.refl _ _).alloc (Nat.le_refl _) _)
  have bA : BoxA ((w.alloc (.cells #[.int .i64 p.n, .slice p.ao p.ka p.ca, .slice p.bo p.kb p.cb, .slice p.co p.kc p.cc] 43)).alloc (.cells #[.int .i64 a.kd, .bool a.n1, .slice a.a1 a.k1 a.c1, .bool a.n2, .slice a.a2 a.k2 a.c2, .slice a.xo a.kx a.cx, .slice a.yo a.ky a.cy, .slice a.ro a.kr a.cr] 46)) (w.heap.size + 1) a := BoxA.new _ a _ (by simp)
  have HP := hid (hp.below hW0)
  have HA := hid (ha.below hW0)
  have HW := hid hW0
  have fkx := ha.x.len.2
  have fky := ha.y.len.2
  have fkr := ha.r.len.2
  have fkb := hp.b.len.2
  have fkc := hp.c.len.2
  clear hp ha hW0
  go_enter Tryz.func67, Tryz.ntmps67
  go_wp2
  go_ret
  exact ⟨rfl, HW.out⟩

set_option maxHeartbeats 1600000 in
theorem noPoint_any (w : World) (p : LPd) (a : Ansd) (hp : p.At w) (ha : a.At w) :
    Calls Tryz.prog 70 #[.agg #[.int .i64 p.n, .slice p.ao p.ka p.ca, .slice p.bo p.kb p.cb, .slice p.co p.kc p.cc], .agg #[.int .i64 a.kd, .bool a.n1, .slice a.a1 a.k1 a.c1, .bool a.n2, .slice a.a2 a.k2 a.c2, .slice a.xo a.kx a.cx, .slice a.yo a.ky a.cy, .slice a.ro a.kr a.cr]] w (Looked (((a.kx : Int) == 0)) w) := by
  have hW0 : Below w.heap.size w ((w.alloc (.cells #[.int .i64 p.n, .slice p.ao p.ka p.ca, .slice p.bo p.kb p.cb, .slice p.co p.kc p.cc] 43)).alloc (.cells #[.int .i64 a.kd, .bool a.n1, .slice a.a1 a.k1 a.c1, .bool a.n2, .slice a.a2 a.k2 a.c2, .slice a.xo a.kx a.cx, .slice a.yo a.ky a.cy, .slice a.ro a.kr a.cr] 46)) := (by repeat (first | exact Below.refl _ _ | refine Below.alloc ?_ ?_ _ | refine Below.setCell ?_ ?_ _ | refine Below.drew ?_ | refine below_drewN ?_ _ | (· simp) | omega | (· simp; omega) | exact Below.size (by assumption) | assumption | refine below_call ?_ (by assumption) ?_))
  have bP : BoxL ((w.alloc (.cells #[.int .i64 p.n, .slice p.ao p.ka p.ca, .slice p.bo p.kb p.cb, .slice p.co p.kc p.cc] 43)).alloc (.cells #[.int .i64 a.kd, .bool a.n1, .slice a.a1 a.k1 a.c1, .bool a.n2, .slice a.a2 a.k2 a.c2, .slice a.xo a.kx a.cx, .slice a.yo a.ky a.cy, .slice a.ro a.kr a.cr] 46)) w.heap.size (.int .i64 p.n) (.slice p.ao p.ka p.ca) (.slice p.bo p.kb p.cb) (.slice p.co p.kc p.cc) := (BoxL.new w _ _ _ _ _ rfl).keep ((Below.refl _ _).alloc (Nat.le_refl _) _)
  have bA : BoxA ((w.alloc (.cells #[.int .i64 p.n, .slice p.ao p.ka p.ca, .slice p.bo p.kb p.cb, .slice p.co p.kc p.cc] 43)).alloc (.cells #[.int .i64 a.kd, .bool a.n1, .slice a.a1 a.k1 a.c1, .bool a.n2, .slice a.a2 a.k2 a.c2, .slice a.xo a.kx a.cx, .slice a.yo a.ky a.cy, .slice a.ro a.kr a.cr] 46)) (w.heap.size + 1) a := BoxA.new _ a _ (by simp)
  have HP := hid (hp.below hW0)
  have HA := hid (ha.below hW0)
  have HW := hid hW0
  have fkx := ha.x.len.2
  have fky := ha.y.len.2
  have fkr := ha.r.len.2
  have fkb := hp.b.len.2
  have fkc := hp.c.len.2
  clear hp ha hW0
  go_enter Tryz.func70, Tryz.ntmps70
  go_wp2
  go_ret
  exact ⟨rfl, HW.out⟩

set_option maxHeartbeats 1600000 in
theorem noWeights_any (w : World) (p : LPd) (a : Ansd) (hp : p.At w) (ha : a.At w) :
    Calls Tryz.prog 74 #[.agg #[.int .i64 p.n, .slice p.ao p.ka p.ca, .slice p.bo p.kb p.cb, .slice p.co p.kc p.cc], .agg #[.int .i64 a.kd, .bool a.n1, .slice a.a1 a.k1 a.c1, .bool a.n2, .slice a.a2 a.k2 a.c2, .slice a.xo a.kx a.cx, .slice a.yo a.ky a.cy, .slice a.ro a.kr a.cr]] w (Looked (((a.ky : Int) == 0)) w) := by
  have hW0 : Below w.heap.size w ((w.alloc (.cells #[.int .i64 p.n, .slice p.ao p.ka p.ca, .slice p.bo p.kb p.cb, .slice p.co p.kc p.cc] 43)).alloc (.cells #[.int .i64 a.kd, .bool a.n1, .slice a.a1 a.k1 a.c1, .bool a.n2, .slice a.a2 a.k2 a.c2, .slice a.xo a.kx a.cx, .slice a.yo a.ky a.cy, .slice a.ro a.kr a.cr] 46)) := (by repeat (first | exact Below.refl _ _ | refine Below.alloc ?_ ?_ _ | refine Below.setCell ?_ ?_ _ | refine Below.drew ?_ | refine below_drewN ?_ _ | (· simp) | omega | (· simp; omega) | exact Below.size (by assumption) | assumption | refine below_call ?_ (by assumption) ?_))
  have bP : BoxL ((w.alloc (.cells #[.int .i64 p.n, .slice p.ao p.ka p.ca, .slice p.bo p.kb p.cb, .slice p.co p.kc p.cc] 43)).alloc (.cells #[.int .i64 a.kd, .bool a.n1, .slice a.a1 a.k1 a.c1, .bool a.n2, .slice a.a2 a.k2 a.c2, .slice a.xo a.kx a.cx, .slice a.yo a.ky a.cy, .slice a.ro a.kr a.cr] 46)) w.heap.size (.int .i64 p.n) (.slice p.ao p.ka p.ca) (.slice p.bo p.kb p.cb) (.slice p.co p.kc p.cc) := (BoxL.new w _ _ _ _ _ rfl).keep ((Below.refl _ _).alloc (Nat.le_refl _) _)
  have bA : BoxA ((w.alloc (.cells #[.int .i64 p.n, .slice p.ao p.ka p.ca, .slice p.bo p.kb p.cb, .slice p.co p.kc p.cc] 43)).alloc (.cells #[.int .i64 a.kd, .bool a.n1, .slice a.a1 a.k1 a.c1, .bool a.n2, .slice a.a2 a.k2 a.c2, .slice a.xo a.kx a.cx, .slice a.yo a.ky a.cy, .slice a.ro a.kr a.cr] 46)) (w.heap.size + 1) a := BoxA.new _ a _ (by simp)
  have HP := hid (hp.below hW0)
  have HA := hid (ha.below hW0)
  have HW := hid hW0
  have fkx := ha.x.len.2
  have fky := ha.y.len.2
  have fkr := ha.r.len.2
  have fkb := hp.b.len.2
  have fkc := hp.c.len.2
  clear hp ha hW0
  go_enter Tryz.func74, Tryz.ntmps74
  go_wp2
  go_ret
  exact ⟨rfl, HW.out⟩

set_option maxHeartbeats 1600000 in
theorem noV_any (w : World) (p : LPd) (a : Ansd) (hp : p.At w) (ha : a.At w) :
    Calls Tryz.prog 71 #[.agg #[.int .i64 p.n, .slice p.ao p.ka p.ca, .slice p.bo p.kb p.cb, .slice p.co p.kc p.cc], .agg #[.int .i64 a.kd, .bool a.n1, .slice a.a1 a.k1 a.c1, .bool a.n2, .slice a.a2 a.k2 a.c2, .slice a.xo a.kx a.cx, .slice a.yo a.ky a.cy, .slice a.ro a.kr a.cr]] w (Looked (cmpR a.V 0 == 0) w) := by
  have hW0 : Below w.heap.size w ((w.alloc (.cells #[.int .i64 p.n, .slice p.ao p.ka p.ca, .slice p.bo p.kb p.cb, .slice p.co p.kc p.cc] 43)).alloc (.cells #[.int .i64 a.kd, .bool a.n1, .slice a.a1 a.k1 a.c1, .bool a.n2, .slice a.a2 a.k2 a.c2, .slice a.xo a.kx a.cx, .slice a.yo a.ky a.cy, .slice a.ro a.kr a.cr] 46)) := (by repeat (first | exact Below.refl _ _ | refine Below.alloc ?_ ?_ _ | refine Below.setCell ?_ ?_ _ | refine Below.drew ?_ | refine below_drewN ?_ _ | (· simp) | omega | (· simp; omega) | exact Below.size (by assumption) | assumption | refine below_call ?_ (by assumption) ?_))
  have bP : BoxL ((w.alloc (.cells #[.int .i64 p.n, .slice p.ao p.ka p.ca, .slice p.bo p.kb p.cb, .slice p.co p.kc p.cc] 43)).alloc (.cells #[.int .i64 a.kd, .bool a.n1, .slice a.a1 a.k1 a.c1, .bool a.n2, .slice a.a2 a.k2 a.c2, .slice a.xo a.kx a.cx, .slice a.yo a.ky a.cy, .slice a.ro a.kr a.cr] 46)) w.heap.size (.int .i64 p.n) (.slice p.ao p.ka p.ca) (.slice p.bo p.kb p.cb) (.slice p.co p.kc p.cc) := (BoxL.new w _ _ _ _ _ rfl).keep ((Below.refl _ _).alloc (Nat.le_refl _) _)
  have bA : BoxA ((w.alloc (.cells #[.int .i64 p.n, .slice p.ao p.ka p.ca, .slice p.bo p.kb p.cb, .slice p.co p.kc p.cc] 43)).alloc (.cells #[.int .i64 a.kd, .bool a.n1, .slice a.a1 a.k1 a.c1, .bool a.n2, .slice a.a2 a.k2 a.c2, .slice a.xo a.kx a.cx, .slice a.yo a.ky a.cy, .slice a.ro a.kr a.cr] 46)) (w.heap.size + 1) a := BoxA.new _ a _ (by simp)
  have HP := hid (hp.below hW0)
  have HA := hid (ha.below hW0)
  have HW := hid hW0
  have fkx := ha.x.len.2
  have fky := ha.y.len.2
  have fkr := ha.r.len.2
  have fkb := hp.b.len.2
  have fkc := hp.c.len.2
  clear hp ha hW0
  go_enter Tryz.func71, Tryz.ntmps71
  go_wp2_with fail
  generalize (w.alloc (.cells #[.int .i64 p.n, .slice p.ao p.ka p.ca, .slice p.bo p.kb p.cb, .slice p.co p.kc p.cc] 43)).alloc (.cells #[.int .i64 a.kd, .bool a.n1, .slice a.a1 a.k1 a.c1, .bool a.n2, .slice a.a2 a.k2 a.c2, .slice a.xo a.kx a.cx, .slice a.yo a.ky a.cy, .slice a.ro a.kr a.cr] 46) = W0 at *
  refine (lpSign_any _ _ 6 a.V HA.out.v (by omega)).mono ?_
  rintro e w1 ⟨rfl, hb⟩
  have HR := hid (below_call HW.out hb HW.out.size)
  clear hb
  obtain ⟨z, hz⟩ : ∃ z, cmpR a.V 0 = z := ⟨_, rfl⟩
  have HZ := hid hz
  rw [hz]
  clear hz
  go_wp2
  go_ret
  exact ⟨ret_bool (by rw [HZ.out]), HR.out⟩

set_option maxHeartbeats 1600000 in
theorem pointIsWithin_any (w : World) (p : LPd) (a : Ansd) (hp : p.At w) (ha : a.At w) :
    Calls Tryz.prog 62 #[.agg #[.int .i64 p.n, .slice p.ao p.ka p.ca, .slice p.bo p.kb p.cb, .slice p.co p.kc p.cc], .agg #[.int .i64 a.kd, .bool a.n1, .slice a.a1 a.k1 a.c1, .bool a.n2, .slice a.a2 a.k2 a.c2, .slice a.xo a.kx a.cx, .slice a.yo a.ky a.cy, .slice a.ro a.kr a.cr]] w (Looked (withinB p.n p.ka p.kb p.kc p.M p.B a.X) w) := by
  have hW0 : Below w.heap.size w ((w.alloc (.cells #[.int .i64 p.n, .slice p.ao p.ka p.ca, .slice p.bo p.kb p.cb, .slice p.co p.kc p.cc] 43)).alloc (.cells #[.int .i64 a.kd, .bool a.n1, .slice a.a1 a.k1 a.c1, .bool a.n2, .slice a.a2 a.k2 a.c2, .slice a.xo a.kx a.cx, .slice a.yo a.ky a.cy, .slice a.ro a.kr a.cr] 46)) := (by repeat (first | exact Below.refl _ _ | refine Below.alloc ?_ ?_ _ | refine Below.setCell ?_ ?_ _ | refine Below.drew ?_ | refine below_drewN ?_ _ | (· simp) | omega | (· simp; omega) | exact Below.size (by assumption) | assumption | refine below_call ?_ (by assumption) ?_))
  have bP : BoxL ((w.alloc (.cells #[.int .i64 p.n, .slice p.ao p.ka p.ca, .slice p.bo p.kb p.cb, .slice p.co p.kc p.cc] 43)).alloc (.cells #[.int .i64 a.kd, .bool a.n1, .slice a.a1 a.k1 a.c1, .bool a.n2, .slice a.a2 a.k2 a.c2, .slice a.xo a.kx a.cx, .slice a.yo a.ky a.cy, .slice a.ro a.kr a.cr] 46)) w.heap.size (.int .i64 p.n) (.slice p.ao p.ka p.ca) (.slice p.bo p.kb p.cb) (.slice p.co p.kc p.cc) := (BoxL.new w _ _ _ _ _ rfl).keep ((Below.refl _ _).alloc (Nat.le_refl _) _)
  have bA : BoxA ((w.alloc (.cells #[.int .i64 p.n, .slice p.ao p.ka p.ca, .slice p.bo p.kb p.cb, .slice p.co p.kc p.cc] 43)).alloc (.cells #[.int .i64 a.kd, .bool a.n1, .slice a.a1 a.k1 a.c1, .bool a.n2, .slice a.a2 a.k2 a.c2, .slice a.xo a.kx a.cx, .slice a.yo a.ky a.cy, .slice a.ro a.kr a.cr] 46)) (w.heap.size + 1) a := BoxA.new _ a _ (by simp)
  have HP := hid (hp.below hW0)
  have HA := hid (ha.below hW0)
  have HW := hid hW0
  have fkx := ha.x.len.2
  have fky := ha.y.len.2
  have fkr := ha.r.len.2
  have fkb := hp.b.len.2
  have fkc := hp.c.len.2
  clear hp ha hW0
  go_enter Tryz.func62, Tryz.ntmps62
  go_wp2_with fail
  generalize (w.alloc (.cells #[.int .i64 p.n, .slice p.ao p.ka p.ca, .slice p.bo p.kb p.cb, .slice p.co p.kc p.cc] 43)).alloc (.cells #[.int .i64 a.kd, .bool a.n1, .slice a.a1 a.k1 a.c1, .bool a.n2, .slice a.a2 a.k2 a.c2, .slice a.xo a.kx a.cx, .slice a.yo a.ky a.cy, .slice a.ro a.kr a.cr] 46) = W0 at *
  refine (lpWithin_any _ p.n p.ao p.bo p.co a.xo p.ka p.ca p.kb p.cb p.kc p.cc a.kx a.cx 6 6 6 p.M p.B a.X HP.out.k HP.out.a HP.out.b fkc HA.out.x (by omega) (by omega) (by omega) (by omega)).mono ?_
  rintro e w1 ⟨rfl, hb⟩
  have HR := hid (below_call HW.out hb HW.out.size)
  clear hb
  go_wp2
  go_ret
  exact ⟨rfl, HR.out⟩

end Go.Proofs.YtmnlggmdomcajaaGreat
