/-
  Problems and answers as they come in; whether they are too great for the statement.
-/
import Derived.Test.YtmnlggmdomcajaaGreatL13
import Derived.Test.YtmnlggmdomcajaaGreatVC
namespace Go.Proofs.YtmnlggmdomcajaaGreat
open Go.RowKit Lm
set_option linter.unusedSimpArgs false
set_option linter.unusedVariables false
set_option maxRecDepth 100000

/-- A problem, an answer as they came in. -/
structure LPd.Raw (p : LPd) (LM : List (List RQ)) (LB LC : List RQ) (w : World) : Prop where
  k : p.ka = LM.length
  a : RawTab w p.ao p.ca LM
  kb : p.kb = LB.length
  b : RawRow w p.bo p.cb LB
  kc : p.kc = LC.length
  c : RawRow w p.co p.cc LC
  eM : p.M = LM.map (List.map RQ.r)
  eB : p.B = LB.map RQ.r
  eC : p.C = LC.map RQ.r
theorem LPd.Raw.below {p : LPd} {LM : List (List RQ)} {LB LC : List RQ} {w w' : World} (h : p.Raw LM LB LC w) (hb : Below w.heap.size w w') : p.Raw LM LB LC w' :=
  ⟨h.k, h.a.below hb, h.kb, h.b.below hb, h.kc, h.c.below hb, h.eM, h.eB, h.eC⟩
structure Ansd.Raw (a : Ansd) (q : RQ) (LX LY LR : List RQ) (w : World) : Prop where
  k1 : a.k1 = q.l1.length
  k2 : a.k2 = q.l2.length
  n1 : a.n1 = q.n1
  n2 : a.n2 = q.n2
  s1 : SlAt w a.a1 a.c1 q.l1
  s2 : SlAt w a.a2 a.c2 q.l2
  kx : a.kx = LX.length
  x : RawRow w a.xo a.cx LX
  ky : a.ky = LY.length
  y : RawRow w a.yo a.cy LY
  kr : a.kr = LR.length
  r : RawRow w a.ro a.cr LR
  eV : a.V = q.r
  eX : a.X = LX.map RQ.r
  eY : a.Y = LY.map RQ.r
  eR : a.R = LR.map RQ.r
theorem Ansd.Raw.below {a : Ansd} {q : RQ} {LX LY LR : List RQ} {w w' : World} (h : a.Raw q LX LY LR w) (hb : Below w.heap.size w w') : a.Raw q LX LY LR w' :=
  ⟨h.k1, h.k2, h.n1, h.n2, h.s1.below hb, h.s2.below hb, h.kx, h.x.below hb, h.ky, h.y.below hb, h.kr, h.r.below hb, h.eV, h.eX, h.eY, h.eR⟩
theorem qsl_raw {w : World} {ao : Option Addr} {k c : Nat} {L : List RQ} (hk : k = L.length) (h : RawRow w ao c L) (hs : ∀ q ∈ L, q.small) : QSl w (.slice ao k c) 6 (L.map RQ.r) :=
  ⟨ao, k, c, rfl, by rw [List.length_map]; exact hk, h.qat hs⟩
theorem LPd.Raw.at {p : LPd} {LM : List (List RQ)} {LB LC : List RQ} {w : World} (h : p.Raw LM LB LC w) (h1 : tabSmall LM) (h2 : ∀ q ∈ LB, q.small) (h3 : ∀ q ∈ LC, q.small) : p.At w :=
  ⟨by rw [h.eM, List.length_map]; exact h.k, by rw [h.eM]; exact h.a.qtab h1.2, by rw [h.eB]; exact qsl_raw h.kb h.b h2, by rw [h.eC]; exact qsl_raw h.kc h.c h3⟩
theorem Ansd.Raw.at {a : Ansd} {q : RQ} {LX LY LR : List RQ} {w : World} (h : a.Raw q LX LY LR w) (h1 : q.small) (h2 : ∀ q ∈ LX, q.small) (h3 : ∀ q ∈ LY, q.small) (h4 : ∀ q ∈ LR, q.small) : a.At w :=
  ⟨⟨_, _, q.l1, _, _, q.l2, by rw [h.n1, h.n2], ⟨_, _, by rw [h.k1], h.s1⟩, ⟨_, _, by rw [h.k2], h.s2⟩, h1.1, h1.2, h.eV⟩, by rw [h.eX]; exact qsl_raw h.kx h.x h2, by rw [h.eY]; exact qsl_raw h.ky h.y h3, by rw [h.eR]; exact qsl_raw h.kr h.r h4⟩

/-- Six rows, laid as a table. -/
theorem rawTab6 {W0 : World} {g : Nat} (hg : g = W0.heap.size) {a1 a2 a3 a4 a5 a6 : Option Addr} {k1 c1 k2 c2 k3 c3 k4 c4 k5 c5 k6 c6 : Nat} {A1 A2 A3 A4 A5 A6 : List RQ} (e1 : k1 = A1.length) (e2 : k2 = A2.length) (e3 : k3 = A3.length) (e4 : k4 = A4.length) (e5 : k5 = A5.length) (e6 : k6 = A6.length) (h1 : RawRow W0 a1 c1 A1) (h2 : RawRow W0 a2 c2 A2) (h3 : RawRow W0 a3 c3 A3) (h4 : RawRow W0 a4 c4 A4) (h5 : RawRow W0 a5 c5 A5) (h6 : RawRow W0 a6 c6 A6) :
    RawTab (W0.alloc (.cells #[.slice a1 k1 c1, .slice a2 k2 c2, .slice a3 k3 c3, .slice a4 k4 c4, .slice a5 k5 c5, .slice a6 k6 c6] 41)) (some ⟨g, 0, none⟩) 6 [A1, A2, A3, A4, A5, A6] := by
  subst hg
  have h := heap_alloc_new W0 (.cells #[.slice a1 k1 c1, .slice a2 k2 c2, .slice a3 k3 c3, .slice a4 k4 c4, .slice a5 k5 c5, .slice a6 k6 c6] 41)
  have hb : Below W0.heap.size W0 (W0.alloc (.cells #[.slice a1 k1 c1, .slice a2 k2 c2, .slice a3 k3 c3, .slice a4 k4 c4, .slice a5 k5 c5, .slice a6 k6 c6] 41)) := (Below.refl _ _).alloc (Nat.le_refl _) _
  refine ⟨Nat.le_refl _, by unfold maxLen; omega, .inr ⟨W0.heap.size, 0, rfl, (Array.getElem?_eq_some_iff.1 h).1, fun i hi => ?_⟩⟩
  simp at hi
  rcases (show i = 0 ∨ i = 1 ∨ i = 2 ∨ i = 3 ∨ i = 4 ∨ i = 5 by omega) with rfl | rfl | rfl | rfl | rfl | rfl
  · exact ⟨_, _, _, by rw [cell_of_row _ _ _ _ _ _ h]; rfl, e1, h1.below hb⟩
  · exact ⟨_, _, _, by rw [cell_of_row _ _ _ _ _ _ h]; rfl, e2, h2.below hb⟩
  · exact ⟨_, _, _, by rw [cell_of_row _ _ _ _ _ _ h]; rfl, e3, h3.below hb⟩
  · exact ⟨_, _, _, by rw [cell_of_row _ _ _ _ _ _ h]; rfl, e4, h4.below hb⟩
  · exact ⟨_, _, _, by rw [cell_of_row _ _ _ _ _ _ h]; rfl, e5, h5.below hb⟩
  · exact ⟨_, _, _, by rw [cell_of_row _ _ _ _ _ _ h]; rfl, e6, h6.below hb⟩
/-- One quotient, laid as a row. -/
theorem rawRow1 {W : World} {g : Nat} {n1 n2 : Bool} {a1 a2 : Option Addr} {k1 c1 k2 c2 : Nat} {q : RQ} (h : W.heap[g]? = some (.cells #[.bool n1, .slice a1 k1 c1, .bool n2, .slice a2 k2 c2] 26 (0, 0))) (e1 : n1 = q.n1) (e2 : n2 = q.n2) (e3 : k1 = q.l1.length) (e4 : k2 = q.l2.length) (s1 : SlAt W a1 c1 q.l1) (s2 : SlAt W a2 c2 q.l2) : RawRow W (some ⟨g, 0, none⟩) 1 [q] := by
  subst e1 e2 e3 e4
  refine ⟨Nat.le_refl _, by unfold maxLen; omega, .inr ⟨g, 0, rfl, (Array.getElem?_eq_some_iff.1 h).1, fun i hi => ?_⟩⟩
  simp at hi
  subst hi
  exact ⟨_, _, _, _, ⟨by rw [cell_of_row _ _ _ _ _ _ h]; rfl, by rw [cell_of_row _ _ _ _ _ _ h]; rfl, by rw [cell_of_row _ _ _ _ _ _ h]; rfl, by rw [cell_of_row _ _ _ _ _ _ h]; rfl⟩, s1, s2⟩

/-- What is known of the document's example. -/
def Awake5 : Prop := ∀ w : World, Calls Tryz.prog 26 #[] w fun e w' => e = .returned (.bool true) ∧ Below w.heap.size w w'

/-- What Great says. -/
def Great5 (p : LPd) (a : Ansd) (w : World) (e : Ending) (w' : World) : Prop := ∃ b, e = .returned (.bool b) ∧ Below w.heap.size w w' ∧ (b = false → p.At w' ∧ a.At w')

theorem six_small {LB LC LX LY LR : List RQ} {q : RQ} (h : tabSmall [LB, LC, LX, LY, LR, [q]]) : (∀ x ∈ LB, x.small) ∧ (∀ x ∈ LC, x.small) ∧ (∀ x ∈ LX, x.small) ∧ (∀ x ∈ LY, x.small) ∧ (∀ x ∈ LR, x.small) ∧ q.small :=
  ⟨h.2 LB (by simp), h.2 LC (by simp), h.2 LX (by simp), h.2 LY (by simp), h.2 LR (by simp), h.2 [q] (by simp) q (by simp)⟩

set_option maxHeartbeats 3200000 in
theorem great5_any (w : World) (p : LPd) (a : Ansd) (LM : List (List RQ)) (LB LC : List RQ) (q : RQ) (LX LY LR : List RQ) (hp : p.Raw LM LB LC w) (ha : a.Raw q LX LY LR w) :
    Calls Tryz.prog 25 #[.agg #[.int .i64 p.n, .slice p.ao p.ka p.ca, .slice p.bo p.kb p.cb, .slice p.co p.kc p.cc], .agg #[.int .i64 a.kd, .bool a.n1, .slice a.a1 a.k1 a.c1, .bool a.n2, .slice a.a2 a.k2 a.c2, .slice a.xo a.kx a.cx, .slice a.yo a.ky a.cy, .slice a.ro a.kr a.cr]] w (Great5 p a w) := by
  have hW0 : Below w.heap.size w ((w.alloc (.cells #[.int .i64 p.n, .slice p.ao p.ka p.ca, .slice p.bo p.kb p.cb, .slice p.co p.kc p.cc] 43)).alloc (.cells #[.int .i64 a.kd, .bool a.n1, .slice a.a1 a.k1 a.c1, .bool a.n2, .slice a.a2 a.k2 a.c2, .slice a.xo a.kx a.cx, .slice a.yo a.ky a.cy, .slice a.ro a.kr a.cr] 46)) := (by repeat (first | exact Below.refl _ _ | refine Below.alloc ?_ ?_ _ | refine Below.setCell ?_ ?_ _ | refine Below.drew ?_ | refine below_drewN ?_ _ | (· simp) | omega | (· simp; omega) | exact Below.size (by assumption) | assumption | refine below_call ?_ (by assumption) ?_))
  have bP : BoxL ((w.alloc (.cells #[.int .i64 p.n, .slice p.ao p.ka p.ca, .slice p.bo p.kb p.cb, .slice p.co p.kc p.cc] 43)).alloc (.cells #[.int .i64 a.kd, .bool a.n1, .slice a.a1 a.k1 a.c1, .bool a.n2, .slice a.a2 a.k2 a.c2, .slice a.xo a.kx a.cx, .slice a.yo a.ky a.cy, .slice a.ro a.kr a.cr] 46)) w.heap.size (.int .i64 p.n) (.slice p.ao p.ka p.ca) (.slice p.bo p.kb p.cb) (.slice p.co p.kc p.cc) := (BoxL.new w _ _ _ _ _ rfl).keep ((Below.refl _ _).alloc (Nat.le_refl _) _)
  have bA : BoxA ((w.alloc (.cells #[.int .i64 p.n, .slice p.ao p.ka p.ca, .slice p.bo p.kb p.cb, .slice p.co p.kc p.cc] 43)).alloc (.cells #[.int .i64 a.kd, .bool a.n1, .slice a.a1 a.k1 a.c1, .bool a.n2, .slice a.a2 a.k2 a.c2, .slice a.xo a.kx a.cx, .slice a.yo a.ky a.cy, .slice a.ro a.kr a.cr] 46)) (w.heap.size + 1) a := BoxA.new _ a _ (by simp)
  have HP := hid (hp.below hW0)
  have HA := hid (ha.below hW0)
  have HW := hid hW0
  clear hp ha hW0
  go_enter Tryz.func25, Tryz.ntmps25
  obtain ⟨x0, x1, x2, x3⟩ := bP.c
  have xl := bP.lt
  go_wp2_with fail
  generalize (w.alloc (.cells #[.int .i64 p.n, .slice p.ao p.ka p.ca, .slice p.bo p.kb p.cb, .slice p.co p.kc p.cc] 43)).alloc (.cells #[.int .i64 a.kd, .bool a.n1, .slice a.a1 a.k1 a.c1, .bool a.n2, .slice a.a2 a.k2 a.c2, .slice a.xo a.kx a.cx, .slice a.yo a.ky a.cy, .slice a.ro a.kr a.cr] 46) = W0 at *
  refine (great4_any _ _ _ _ LM HP.out.k HP.out.a).mono ?_
  rintro e W2 ⟨b, rfl, hsm, rfl⟩
  cases b
  · have HS := hid (hsm rfl)
    clear hsm
    obtain ⟨y0, y1, y2, y3, y4, y5, y6, y7⟩ := bA.c
    have yl := bA.lt
    have hV : Below W2.heap.size W2 (W2.alloc (.cells #[.bool a.n1, .slice a.a1 a.k1 a.c1, .bool a.n2, .slice a.a2 a.k2 a.c2] 26)) := (Below.refl _ _).alloc (Nat.le_refl _) _
    have rV := rawRow1 (q := q) (heap_alloc_new W2 (.cells #[.bool a.n1, .slice a.a1 a.k1 a.c1, .bool a.n2, .slice a.a2 a.k2 a.c2] 26)) HA.out.n1 HA.out.n2 HA.out.k1 HA.out.k2 (HA.out.s1.below hV) (HA.out.s2.below hV)
    have hT := hid (rawTab6 (W0 := W2.alloc (.cells #[.bool a.n1, .slice a.a1 a.k1 a.c1, .bool a.n2, .slice a.a2 a.k2 a.c2] 26)) (g := W2.heap.size + 1) (by simp) HP.out.kb HP.out.kc HA.out.kx HA.out.ky HA.out.kr rfl (HP.out.b.below hV) (HP.out.c.below hV) (HA.out.x.below hV) (HA.out.y.below hV) (HA.out.r.below hV) rV)
    have hW3 := (HW.out.alloc HW.out.size (.cells #[.bool a.n1, .slice a.a1 a.k1 a.c1, .bool a.n2, .slice a.a2 a.k2 a.c2] 26)).alloc (HW.out.alloc HW.out.size (.cells #[.bool a.n1, .slice a.a1 a.k1 a.c1, .bool a.n2, .slice a.a2 a.k2 a.c2] 26)).size (.cells #[.slice p.bo p.kb p.cb, .slice p.co p.kc p.cc, .slice a.xo a.kx a.cx, .slice a.yo a.ky a.cy, .slice a.ro a.kr a.cr, .slice (some ⟨W2.heap.size, 0, none⟩) 1 1] 41)
    have hV2 := hV.alloc hV.size (.cells #[.slice p.bo p.kb p.cb, .slice p.co p.kc p.cc, .slice a.xo a.kx a.cx, .slice a.yo a.ky a.cy, .slice a.ro a.kr a.cr, .slice (some ⟨W2.heap.size, 0, none⟩) 1 1] 41)
    replace HP := hid (HP.out.below hV2)
    replace HA := hid (HA.out.below hV2)
    have HR := hid hW3
    clear hV rV hW3 hV2
    go_wp2_with fail
    clear x0 x1 x2 x3 xl y0 y1 y2 y3 y4 y5 y6 y7 yl
    refine (great4_any _ _ _ _ [LB, LC, LX, LY, LR, [q]] rfl hT.out).mono ?_
    rintro e W3 ⟨b, rfl, hsm, rfl⟩
    have HS2 := hid hsm
    clear hsm
    go_wp2
    go_ret
    refine ⟨b, rfl, HR.out, fun h => ?_⟩
    obtain ⟨t1, t2, t3, t4, t5, t6⟩ := six_small (HS2.out h)
    exact ⟨HP.out.at HS.out t1 t2, HA.out.at t6 t3 t4 t5⟩
  · clear hsm
    go_wp2
    go_ret
    exact ⟨true, rfl, HW.out, by simp⟩

end Go.Proofs.YtmnlggmdomcajaaGreat
