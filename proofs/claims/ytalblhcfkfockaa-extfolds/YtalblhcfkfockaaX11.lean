/-
  Four boxes of quotients with ends, each folded on by itself.
-/
import Derived.Test.YtalblhcfkfockaaX10
namespace Go.Proofs.Ytalblhcfkfockaa
open Go.RowKit Lm
set_option linter.unusedSimpArgs false
set_option linter.unusedVariables false
set_option maxRecDepth 100000

/-- A box that holds what counts as x; where T is so it has been told. -/
def Bx (W : World) (g : Nat) (T : Prop) (x : EX) : Prop :=
  ∃ k n1 a1 k1 c1 n2 a2 k2 c2, Box5 W g (.int .i64 k) (.bool n1) (.slice a1 k1 c1) (.bool n2) (.slice a2 k2 c2) ∧ EArg W (.agg #[.int .i64 k, .bool n1, .slice a1 k1 c1, .bool n2, .slice a2 k2 c2]) 6 x ∧ (T → EF W (.agg #[.int .i64 k, .bool n1, .slice a1 k1 c1, .bool n2, .slice a2 k2 c2]) 6 x)
theorem Bx.keep {W W' : World} {g : Nat} {T : Prop} {x : EX} (h : Bx W g T x) (hb : Below W.heap.size W W') : Bx W' g T x := by
  obtain ⟨k, n1, a1, k1, c1, n2, a2, k2, c2, h1, h2, h3⟩ := h
  exact ⟨k, n1, a1, k1, c1, n2, a2, k2, c2, h1.keep hb, h2.below hb, fun t => (h3 t).below hb⟩
theorem Bx.shape {W : World} {g : Nat} {T : Prop} {x : EX} (h : Bx W g T x) : ∃ k n1 a1 k1 c1 n2 a2 k2 c2, Box5 W g (.int .i64 k) (.bool n1) (.slice a1 k1 c1) (.bool n2) (.slice a2 k2 c2) := by
  obtain ⟨k, n1, a1, k1, c1, n2, a2, k2, c2, h1, -⟩ := h
  exact ⟨k, n1, a1, k1, c1, n2, a2, k2, c2, h1⟩
theorem EArg.off5' {W W' : World} {v : Value} {n : Nat} {x : EX} {g k1 d1 k2 d2 : Nat} {z : Int} {a1 a2 : Option Addr} {b1 b2 : Bool} (h : EArg W v n x) (hg : Box5 W g (.int .i64 z) (.bool b1) (.slice a1 k1 d1) (.bool b2) (.slice a2 k2 d2)) (hW : W.grownBy W' (some g)) : EArg W' v n x := by
  obtain ⟨k, n1, p1, c1, l1, n2, p2, c2, l2, e, h1, h2, hr⟩ := h
  exact ⟨k, n1, p1, c1, l1, n2, p2, c2, l2, e, h1.off5 hg hW, h2.off5 hg hW, hr⟩
theorem EF.off5' {W W' : World} {v : Value} {n : Nat} {x : EX} {g k1 d1 k2 d2 : Nat} {z : Int} {a1 a2 : Option Addr} {b1 b2 : Bool} (h : EF W v n x) (hg : Box5 W g (.int .i64 z) (.bool b1) (.slice a1 k1 d1) (.bool b2) (.slice a2 k2 d2)) (hW : W.grownBy W' (some g)) : EF W' v n x := by
  obtain ⟨m1, p1, j1, e1, m2, p2, j2, e2, e, h⟩ := h
  exact ⟨m1, p1, j1, e1, m2, p2, j2, e2, e, h.off5 hg hW⟩
/-- Another box is filled. -/
theorem Bx.beside {W : World} {g h : Nat} {T S : Prop} {x y : EX} (hg : Bx W g T x) (hh : Bx W h S y) (hne : g ≠ h) (p q r s t : Value) : Bx (fill5 W h p q r s t) g T x := by
  obtain ⟨k, n1, a1, k1, c1, n2, a2, k2, c2, h1, h2, h3⟩ := hg
  obtain ⟨z, b1, p1, e1, d1, b2, p2, e2, d2, h4⟩ := hh.shape
  exact ⟨k, n1, a1, k1, c1, n2, a2, k2, c2, h1.beside hne _ _ _ _ _, h2.off5' h4 (grow5 _ _ _ _ _ _ _), fun t => (h3 t).off5' h4 (grow5 _ _ _ _ _ _ _)⟩
/-- The box is filled with what has been told. -/
theorem Bx.fill {W : World} {g : Nat} {T : Prop} {x y : EX} {n : Nat} {m1 m2 : Bool} {p1 p2 : Option Addr} {j1 d1 j2 d2 : Nat} (hg : Bx W g T x) (hI : EIs W n m1 p1 j1 d1 m2 p2 j2 d2 y) (hB : EB 6 y) (S : Prop) : Bx (fill5 W g (.int .i64 (eK y)) (.bool m1) (.slice p1 j1 d1) (.bool m2) (.slice p2 j2 d2)) g S y := by
  obtain ⟨z, b1, q1, e1, f1, b2, q2, e2, f2, h4⟩ := hg.shape
  have h5 := (hI.tight hB).off5 h4 (grow5 W g (.int .i64 (eK y)) (.bool m1) (.slice p1 j1 d1) (.bool m2) (.slice p2 j2 d2))
  exact ⟨eK y, m1, p1, j1, d1, m2, p2, j2, d2, h4.filled _ _ _ _ _, h5.cnt.arg, fun _ => ⟨m1, p1, j1, d1, m2, p2, j2, d2, rfl, h5⟩⟩

/-- Four boxes. -/
structure Four (w W : World) (g3 g4 g5 g6 : Nat) (T3 T4 T5 T6 : Prop) (xa xb xc xd : EX) : Prop where
  a : Bx W g3 T3 xa
  b : Bx W g4 T4 xb
  c : Bx W g5 T5 xc
  d : Bx W g6 T6 xd
  bl : Below w.heap.size w W
  l3 : w.heap.size ≤ g3
  l4 : w.heap.size ≤ g4
  l5 : w.heap.size ≤ g5
  l6 : w.heap.size ≤ g6
  ne : g3 ≠ g4 ∧ g3 ≠ g5 ∧ g3 ≠ g6 ∧ g4 ≠ g5 ∧ g4 ≠ g6 ∧ g5 ≠ g6
section
variable {w W W' : World} {g3 g4 g5 g6 n : Nat} {T3 T4 T5 T6 : Prop} {xa xb xc xd y : EX} {m1 m2 : Bool} {p1 p2 : Option Addr} {j1 d1 j2 d2 : Nat}
theorem Four.keep (F : Four w W g3 g4 g5 g6 T3 T4 T5 T6 xa xb xc xd) (hb : Below W.heap.size W W') : Four w W' g3 g4 g5 g6 T3 T4 T5 T6 xa xb xc xd :=
  ⟨F.a.keep hb, F.b.keep hb, F.c.keep hb, F.d.keep hb, below_call F.bl hb F.bl.size, F.l3, F.l4, F.l5, F.l6, F.ne⟩
theorem Four.drew (F : Four w W g3 g4 g5 g6 T3 T4 T5 T6 xa xb xc xd) : Four w W.drew g3 g4 g5 g6 T3 T4 T5 T6 xa xb xc xd := F.keep (Below.refl _ _).drew
theorem Four.fillA (F : Four w W g3 g4 g5 g6 T3 T4 T5 T6 xa xb xc xd) (hI : EIs W n m1 p1 j1 d1 m2 p2 j2 d2 y) (hB : EB 6 y) : Four w (fill5 W g3 (.int .i64 (eK y)) (.bool m1) (.slice p1 j1 d1) (.bool m2) (.slice p2 j2 d2)) g3 g4 g5 g6 True T4 T5 T6 y xb xc xd :=
  ⟨F.a.fill hI hB _, F.b.beside F.a (Ne.symm F.ne.1) _ _ _ _ _, F.c.beside F.a (Ne.symm F.ne.2.1) _ _ _ _ _, F.d.beside F.a (Ne.symm F.ne.2.2.1) _ _ _ _ _, below_fill5 F.bl F.l3 _ _ _ _ _, F.l3, F.l4, F.l5, F.l6, F.ne⟩
theorem Four.fillB (F : Four w W g3 g4 g5 g6 T3 T4 T5 T6 xa xb xc xd) (hI : EIs W n m1 p1 j1 d1 m2 p2 j2 d2 y) (hB : EB 6 y) : Four w (fill5 W g4 (.int .i64 (eK y)) (.bool m1) (.slice p1 j1 d1) (.bool m2) (.slice p2 j2 d2)) g3 g4 g5 g6 T3 True T5 T6 xa y xc xd :=
  ⟨F.a.beside F.b F.ne.1 _ _ _ _ _, F.b.fill hI hB _, F.c.beside F.b (Ne.symm F.ne.2.2.2.1) _ _ _ _ _, F.d.beside F.b (Ne.symm F.ne.2.2.2.2.1) _ _ _ _ _, below_fill5 F.bl F.l4 _ _ _ _ _, F.l3, F.l4, F.l5, F.l6, F.ne⟩
theorem Four.fillC (F : Four w W g3 g4 g5 g6 T3 T4 T5 T6 xa xb xc xd) (hI : EIs W n m1 p1 j1 d1 m2 p2 j2 d2 y) (hB : EB 6 y) : Four w (fill5 W g5 (.int .i64 (eK y)) (.bool m1) (.slice p1 j1 d1) (.bool m2) (.slice p2 j2 d2)) g3 g4 g5 g6 T3 T4 True T6 xa xb y xd :=
  ⟨F.a.beside F.c F.ne.2.1 _ _ _ _ _, F.b.beside F.c F.ne.2.2.2.1 _ _ _ _ _, F.c.fill hI hB _, F.d.beside F.c (Ne.symm F.ne.2.2.2.2.2) _ _ _ _ _, below_fill5 F.bl F.l5 _ _ _ _ _, F.l3, F.l4, F.l5, F.l6, F.ne⟩
theorem Four.fillD (F : Four w W g3 g4 g5 g6 T3 T4 T5 T6 xa xb xc xd) (hI : EIs W n m1 p1 j1 d1 m2 p2 j2 d2 y) (hB : EB 6 y) : Four w (fill5 W g6 (.int .i64 (eK y)) (.bool m1) (.slice p1 j1 d1) (.bool m2) (.slice p2 j2 d2)) g3 g4 g5 g6 T3 T4 T5 True xa xb xc y :=
  ⟨F.a.beside F.d F.ne.2.2.1 _ _ _ _ _, F.b.beside F.d F.ne.2.2.2.2.1 _ _ _ _ _, F.c.beside F.d F.ne.2.2.2.2.2 _ _ _ _ _, F.d.fill hI hB _, below_fill5 F.bl F.l6 _ _ _ _ _, F.l3, F.l4, F.l5, F.l6, F.ne⟩
end

end Go.Proofs.Ytalblhcfkfockaa
