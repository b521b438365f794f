/-
  Quotients with ends: boxes of five cells, what they mean, what is told.
  Walks: isWithout, isZeroValue, isEnd, counted.
  Walks: Cmp, Text and Add of quotients with ends; told.
  Walks: Add of quotients with ends; told, greater, Max.
  Walks: the greater one, by an order that is handed in; Max.
-/
import Derived.Test.YtalblhcfkfockaaG5a

namespace Go.Proofs.Ytalblhcfkfockaa
open Go.RowKit Lm
set_option linter.unusedSimpArgs false
set_option linter.unusedVariables false
set_option maxRecDepth 100000

def Box5 (w : World) (b : Nat) (k p q r s : Value) : Prop := w.heap[b]? = some (.cells #[k, p, q, r, s] 31 (0, 0))
section
variable {w w' : World} {b : Nat} {k p q r s : Value}
theorem Box5.lt (h : Box5 w b k p q r s) : b < w.heap.size := (Array.getElem?_eq_some_iff.1 h).1
theorem Box5.c (h : Box5 w b k p q r s) : w.cell? ⟨b, 0, none⟩ = some k ∧ w.cell? ⟨b, 1, none⟩ = some p ∧ w.cell? ⟨b, 2, none⟩ = some q ∧ w.cell? ⟨b, 3, none⟩ = some r ∧ w.cell? ⟨b, 4, none⟩ = some s := by
  refine ⟨?_, ?_, ?_, ?_, ?_⟩ <;> rw [cell_of_row w b _ #[k, p, q, r, s] 31 (0, 0) h] <;> rfl
theorem Box5.f (h : Box5 w b k p q r s) (i : Nat) : w.frozen? ⟨b, i, none⟩ = false := frozen_of_row w b i #[k, p, q, r, s] 31 h
theorem Box5.new (w : World) (k p q r s : Value) (b : Nat) (hb : b = w.heap.size) : Box5 (w.alloc (.cells #[k, p, q, r, s] 31)) b k p q r s := by subst hb; exact heap_alloc_new w _
theorem Box5.keep (h : Box5 w b k p q r s) (hb : Below w.heap.size w w') : Box5 w' b k p q r s := (hb.block b h.lt).trans h
theorem Box5.other (h : Box5 w b k p q r s) {a : Addr} (ha : b ≠ a.block) (u : Value) : Box5 (w.setCell a u) b k p q r s := (heap_setCell_other w a b u ha).trans h
theorem Box5.alloc (h : Box5 w b k p q r s) (o : Obj) : Box5 (w.alloc o) b k p q r s := (Below.heap_alloc w o b h.lt).trans h
end
theorem SlAt.off5 {W W' : World} {ao : Option Addr} {cap g k1 d1 k2 d2 : Nat} {z : Int} {l : List Nat} {a1 a2 : Option Addr} {b1 b2 : Bool} (h : SlAt W ao cap l) (hg : Box5 W g (.int .i64 z) (.bool b1) (.slice a1 k1 d1) (.bool b2) (.slice a2 k2 d2)) (hW : W.grownBy W' (some g)) : SlAt W' ao cap l := by
  by_cases h0 : l.length = 0
  · obtain ⟨h1, h2, h3, h4⟩ := h
    refine ⟨h1, h2, h3, ?_⟩
    rcases h4 with h4 | ⟨b', off, e, hlt, hc⟩
    · exact .inl h4
    · exact .inl ⟨h0, fun h => by rw [e] at h; simp at h⟩
  · refine slAt_grow h hW ?_
    rintro ad rfl hb
    obtain ⟨-, -, -, h4⟩ := h
    rcases h4 with h4 | ⟨b', off, e, hlt, hc⟩
    · exact h0 h4.1
    · simp only [Option.some.injEq] at e
      subst e
      simp only at hb
      subst hb
      have h5 := hc 0 (by omega)
      rw [cell_of_row W b' (off + 0) #[.int .i64 z, .bool b1, .slice a1 k1 d1, .bool b2, .slice a2 k2 d2] 31 (0, 0) hg] at h5
      rcases (show off = 0 ∨ off = 1 ∨ off = 2 ∨ off = 3 ∨ off = 4 ∨ 5 ≤ off by omega) with rfl | rfl | rfl | rfl | rfl | h6
      · simp at h5
      · simp at h5
      · simp at h5
      · simp at h5
      · simp at h5
      · rw [Array.getElem?_eq_none (by simp; omega)] at h5
        simp at h5
def fill5 (W : World) (g : Nat) (k p q r s : Value) : World := ((((W.setCell ⟨g, 0, none⟩ k).setCell ⟨g, 1, none⟩ p).setCell ⟨g, 2, none⟩ q).setCell ⟨g, 3, none⟩ r).setCell ⟨g, 4, none⟩ s
theorem fill5_eq (W : World) (g : Nat) (k p q r s : Value) : ((((W.setCell ⟨g, 0, none⟩ k).setCell ⟨g, 1, none⟩ p).setCell ⟨g, 2, none⟩ q).setCell ⟨g, 3, none⟩ r).setCell ⟨g, 4, none⟩ s = fill5 W g k p q r s := rfl
theorem grow5 (W : World) (g : Nat) (k p q r s : Value) : W.grownBy (fill5 W g k p q r s) (some g) := grow_set (grow_set (grow_set (grow_set (grow_set (grow_refl _ _) _ _) _ _) _ _) _ _) _ _
theorem size5 (W : World) (g : Nat) (k p q r s : Value) : (fill5 W g k p q r s).heap.size = W.heap.size := by simp [fill5, World.setCell]
theorem Box5.filled {W : World} {g : Nat} {a b c d e : Value} (h : Box5 W g a b c d e) (k p q r s : Value) : Box5 (fill5 W g k p q r s) g k p q r s := by
  have h0 : Box5 (W.setCell ⟨g, 0, none⟩ k) g k b c d e := by unfold Box5; rw [heap_setCell_same W g 0 _ _ k h]; rfl
  have h1 : Box5 ((W.setCell ⟨g, 0, none⟩ k).setCell ⟨g, 1, none⟩ p) g k p c d e := by unfold Box5; rw [heap_setCell_same _ g 1 _ _ p h0]; rfl
  have h2 : Box5 (((W.setCell ⟨g, 0, none⟩ k).setCell ⟨g, 1, none⟩ p).setCell ⟨g, 2, none⟩ q) g k p q d e := by unfold Box5; rw [heap_setCell_same _ g 2 _ _ q h1]; rfl
  have h3 : Box5 ((((W.setCell ⟨g, 0, none⟩ k).setCell ⟨g, 1, none⟩ p).setCell ⟨g, 2, none⟩ q).setCell ⟨g, 3, none⟩ r) g k p q r e := by unfold Box5; rw [heap_setCell_same _ g 3 _ _ r h2]; rfl
  unfold fill5 Box5
  rw [heap_setCell_same _ g 4 _ _ s h3]
  rfl
theorem Box5.beside {W : World} {g h : Nat} {a b c d e : Value} (hg : Box5 W g a b c d e) (hne : g ≠ h) (k p q r s : Value) : Box5 (fill5 W h k p q r s) g a b c d e := ((((hg.other hne _).other hne _).other hne _).other hne _).other hne _
theorem Box4.beside5 {W : World} {g h : Nat} {a b c d : Value} (hg : Box4 W g a b c d) (hne : g ≠ h) (k p q r s : Value) : Box4 (fill5 W h k p q r s) g a b c d := ((((hg.other hne _).other hne _).other hne _).other hne _).other hne _
theorem below_fill5 {B : Nat} {w W : World} {g : Nat} (h : Below B w W) (hg : B ≤ g) (k p q r s : Value) : Below B w (fill5 W g k p q r s) := ((((h.setCell hg _).setCell hg _).setCell hg _).setCell hg _).setCell hg _

theorem Is.off5 {W W' : World} {v : Value} {n : Nat} {x : Int} {lo g k1 d1 k2 d2 : Nat} {z : Int} {a1 a2 : Option Addr} {b1 b2 : Bool} (h : Is W lo v n x) (hg : Box5 W g (.int .i64 z) (.bool b1) (.slice a1 k1 d1) (.bool b2) (.slice a2 k2 d2)) (hW : W.grownBy W' (some g)) : Is W' lo v n x := by
  obtain ⟨neg, ao, cap, l, e, hs, hr⟩ := h
  exact ⟨neg, ao, cap, l, e, hs.off5 hg hW, hr⟩
theorem RArg.off5 {W W' : World} {v : Value} {n : Nat} {r : Rat} {g k1 d1 k2 d2 : Nat} {z : Int} {a1 a2 : Option Addr} {b1 b2 : Bool} (h : RArg W v n r) (hg : Box5 W g (.int .i64 z) (.bool b1) (.slice a1 k1 d1) (.bool b2) (.slice a2 k2 d2)) (hW : W.grownBy W' (some g)) : RArg W' v n r := by
  obtain ⟨n1, s1, l1, n2, s2, l2, e, ⟨p1, q1, e1, h1⟩, ⟨p2, q2, e2, h2⟩, hr⟩ := h
  exact ⟨n1, s1, l1, n2, s2, l2, e, ⟨p1, q1, e1, h1.off5 hg hW⟩, ⟨p2, q2, e2, h2.off5 hg hW⟩, hr⟩
theorem RIs.off5 {W W' : World} {v : Value} {n : Nat} {r : Rat} {lo g k1 d1 k2 d2 : Nat} {z : Int} {a1 a2 : Option Addr} {b1 b2 : Bool} (h : RIs W lo v n r) (hg : Box5 W g (.int .i64 z) (.bool b1) (.slice a1 k1 d1) (.bool b2) (.slice a2 k2 d2)) (hW : W.grownBy W' (some g)) : RIs W' lo v n r := by
  obtain ⟨n1, p1, q1, c1, n2, p2, q2, c2, e, h1, h2⟩ := h
  exact ⟨n1, p1, q1, c1, n2, p2, q2, c2, e, h1.off5 hg hW, h2.off5 hg hW⟩

/-- A quotient, or an end. -/
inductive EX where
  | lo : EX
  | q : Rat → EX
  | hi : EX
def eK : EX → Int
  | .lo => -1
  | .q _ => 0
  | .hi => 1
def zeroB (n1 : Bool) (l1 : Nat) (n2 : Bool) (l2 : Nat) : Bool := (!n1 && decide (l1 = 0)) && (!n2 && decide (l2 = 0))
def endB (k : Int) (n1 : Bool) (l1 : Nat) (n2 : Bool) (l2 : Nat) : Bool := (decide (k = -1) || decide (k = 1)) && zeroB n1 l1 n2 l2
def extMean (k : Int) (n1 : Bool) (l1 : List Nat) (n2 : Bool) (l2 : List Nat) : EX := if endB k n1 l1.length n2 l2.length = true then (if k = -1 then .lo else .hi) else if k = 0 then .q (ratMean n1 l1 n2 l2) else .q 0
/-- What is handed in, and what it means. -/
def EArg (w : World) (v : Value) (n : Nat) (x : EX) : Prop := ∃ k n1 a1 c1 l1 n2 a2 c2 l2, v = .agg #[.int .i64 k, .bool n1, .slice a1 l1.length c1, .bool n2, .slice a2 l2.length c2] ∧ SlAt w a1 c1 l1 ∧ SlAt w a2 c2 l2 ∧ l1.length ≤ n ∧ l2.length ≤ n ∧ x = extMean k n1 l1 n2 l2
/-- What it counts as: its cells but the kind. -/
def ECnt (w : World) (n : Nat) (m1 : Bool) (p1 : Option Addr) (j1 d1 : Nat) (m2 : Bool) (p2 : Option Addr) (j2 d2 : Nat) : EX → Prop
  | .q r => RArg w (.agg #[.bool m1, .slice p1 j1 d1, .bool m2, .slice p2 j2 d2]) n r
  | _ => m1 = false ∧ p1 = none ∧ j1 = 0 ∧ d1 = 0 ∧ m2 = false ∧ p2 = none ∧ j2 = 0 ∧ d2 = 0
/-- What is told. -/
def EIs (w : World) (n : Nat) (m1 : Bool) (p1 : Option Addr) (j1 d1 : Nat) (m2 : Bool) (p2 : Option Addr) (j2 d2 : Nat) : EX → Prop
  | .q r => RIs w 0 (.agg #[.bool m1, .slice p1 j1 d1, .bool m2, .slice p2 j2 d2]) n r
  | _ => m1 = false ∧ p1 = none ∧ j1 = 0 ∧ d1 = 0 ∧ m2 = false ∧ p2 = none ∧ j2 = 0 ∧ d2 = 0
section
variable {w w' : World} {n n' : Nat} {m1 m2 : Bool} {p1 p2 : Option Addr} {j1 d1 j2 d2 : Nat} {x : EX} {v : Value}
theorem EArg.below (h : EArg w v n x) (hb : Below w.heap.size w w') : EArg w' v n x := by
  obtain ⟨k, n1, a1, c1, l1, n2, a2, c2, l2, e, h1, h2, hr⟩ := h
  exact ⟨k, n1, a1, c1, l1, n2, a2, c2, l2, e, h1.below hb, h2.below hb, hr⟩
theorem ECnt.below (h : ECnt w n m1 p1 j1 d1 m2 p2 j2 d2 x) (hb : Below w.heap.size w w') : ECnt w' n m1 p1 j1 d1 m2 p2 j2 d2 x := by
  cases x
  · exact h
  · exact RArg.below h hb
  · exact h
theorem EIs.below (h : EIs w n m1 p1 j1 d1 m2 p2 j2 d2 x) (hb : Below w.heap.size w w') : EIs w' n m1 p1 j1 d1 m2 p2 j2 d2 x := by
  cases x
  · exact h
  · exact RIs.below h hb
  · exact h
theorem EIs.mono (h : EIs w n m1 p1 j1 d1 m2 p2 j2 d2 x) (hn : n ≤ n') : EIs w n' m1 p1 j1 d1 m2 p2 j2 d2 x := by
  cases x
  · exact h
  · exact RIs.mono h (Nat.le_refl _) hn
  · exact h
theorem EIs.cnt (h : EIs w n m1 p1 j1 d1 m2 p2 j2 d2 x) : ECnt w n m1 p1 j1 d1 m2 p2 j2 d2 x := by
  cases x
  · exact h
  · exact RIs.arg h
  · exact h
theorem ECnt.off5 {W W' : World} {g k1 e1 k2 e2 : Nat} {z : Int} {a1 a2 : Option Addr} {b1 b2 : Bool} (h : ECnt W n m1 p1 j1 d1 m2 p2 j2 d2 x) (hg : Box5 W g (.int .i64 z) (.bool b1) (.slice a1 k1 e1) (.bool b2) (.slice a2 k2 e2)) (hW : W.grownBy W' (some g)) : ECnt W' n m1 p1 j1 d1 m2 p2 j2 d2 x := by
  cases x
  · exact h
  · exact RArg.off5 h hg hW
  · exact h
theorem EIs.off5 {W W' : World} {g k1 e1 k2 e2 : Nat} {z : Int} {a1 a2 : Option Addr} {b1 b2 : Bool} (h : EIs W n m1 p1 j1 d1 m2 p2 j2 d2 x) (hg : Box5 W g (.int .i64 z) (.bool b1) (.slice a1 k1 e1) (.bool b2) (.slice a2 k2 e2)) (hW : W.grownBy W' (some g)) : EIs W' n m1 p1 j1 d1 m2 p2 j2 d2 x := by
  cases x
  · exact h
  · exact RIs.off5 h hg hW
  · exact h
theorem slat_zero (w : World) : SlAt w none 0 [] := ⟨ok_nil, by simp, by unfold maxLen; omega, .inl ⟨rfl, fun _ => rfl⟩⟩
/-- What is counted may be handed on, and means the same. -/
theorem ECnt.arg (h : ECnt w n m1 p1 j1 d1 m2 p2 j2 d2 x) : EArg w (.agg #[.int .i64 (eK x), .bool m1, .slice p1 j1 d1, .bool m2, .slice p2 j2 d2]) n x := by
  cases x
  · obtain ⟨rfl, rfl, rfl, rfl, rfl, rfl, rfl, rfl⟩ := h
    exact ⟨-1, false, none, 0, [], false, none, 0, [], rfl, slat_zero w, slat_zero w, by simp, by simp, by simp [extMean, endB, zeroB]⟩
  · rename_i r
    obtain ⟨n1, s1, l1, n2, s2, l2, e, ⟨a1, c1, rfl, h1⟩, ⟨a2, c2, rfl, h2⟩, hl1, hl2, rfl⟩ := h
    simp only [Value.agg.injEq, Array.mk.injEq, List.cons.injEq, Value.bool.injEq, Value.slice.injEq, and_true] at e
    obtain ⟨rfl, ⟨rfl, rfl, rfl⟩, rfl, rfl, rfl, rfl⟩ := e
    exact ⟨0, m1, p1, d1, l1, m2, p2, d2, l2, rfl, h1, h2, hl1, hl2, by simp [extMean, endB]⟩
  · obtain ⟨rfl, rfl, rfl, rfl, rfl, rfl, rfl, rfl⟩ := h
    exact ⟨1, false, none, 0, [], false, none, 0, [], rfl, slat_zero w, slat_zero w, by simp, by simp, by simp [extMean, endB, zeroB]⟩
theorem EArg.shape (h : EArg w v n x) : ∃ k n1 a1 k1 c1 n2 a2 k2 c2, v = .agg #[.int .i64 k, .bool n1, .slice a1 k1 c1, .bool n2, .slice a2 k2 c2] := by
  obtain ⟨k, n1, a1, c1, l1, n2, a2, c2, l2, rfl, -⟩ := h
  exact ⟨k, n1, a1, _, c1, n2, a2, _, c2, rfl⟩
end

end Go.Proofs.Ytalblhcfkfockaa

namespace Go.Proofs.Ytalblhcfkfockaa
open Go.RowKit Lm
set_option linter.unusedSimpArgs false
set_option linter.unusedVariables false
set_option maxRecDepth 100000

set_option maxHeartbeats 800000 in
theorem isWithout_any (w : World) (n1 : Bool) (a1 : Option Addr) (L1 c1 : Nat) (hk : L1 ≤ 9223372036854775807) :
    Calls Try.prog 81 #[.agg #[.bool n1, .slice a1 L1 c1]] w fun e w' => e = .returned (.bool (!n1 && decide (L1 = 0))) ∧ Below w.heap.size w w' := by
  go_enter Try.func81, Try.ntmps81
  cases n1
  · by_cases h : L1 = 0
    · subst h
      go_wp2
      go_ret
      exact ⟨rfl, (by repeat (first | exact Below.refl _ _ | refine Below.alloc ?_ ?_ _ | refine Below.setCell ?_ ?_ _ | refine Below.drew ?_ | refine below_drewN ?_ _ | (· simp) | omega | (· simp; omega) | exact Below.size (by assumption) | assumption | refine below_call ?_ (by assumption) ?_))⟩
    · have hb : ((L1 : Int) == 0) = false := by simp; omega
      have hd : Hid (decide (L1 = 0) = false) := hid (decide_eq_false h)
      clear h
      go_wp2
      go_ret
      exact ⟨ret_bool (by rw [hd.out]; rfl), (by repeat (first | exact Below.refl _ _ | refine Below.alloc ?_ ?_ _ | refine Below.setCell ?_ ?_ _ | refine Below.drew ?_ | refine below_drewN ?_ _ | (· simp) | omega | (· simp; omega) | exact Below.size (by assumption) | assumption | refine below_call ?_ (by assumption) ?_))⟩
  · go_wp2
    go_ret
    exact ⟨rfl, (by repeat (first | exact Below.refl _ _ | refine Below.alloc ?_ ?_ _ | refine Below.setCell ?_ ?_ _ | refine Below.drew ?_ | refine below_drewN ?_ _ | (· simp) | omega | (· simp; omega) | exact Below.size (by assumption) | assumption | refine below_call ?_ (by assumption) ?_))⟩

set_option maxHeartbeats 800000 in
theorem isZeroValue_any (w : World) (n1 : Bool) (a1 : Option Addr) (L1 c1 : Nat) (n2 : Bool) (a2 : Option Addr) (L2 c2 : Nat) (hk1 : L1 ≤ 9223372036854775807) (hk2 : L2 ≤ 9223372036854775807) :
    Calls Try.prog 59 #[.agg #[.bool n1, .slice a1 L1 c1, .bool n2, .slice a2 L2 c2]] w fun e w' => e = .returned (.bool (zeroB n1 L1 n2 L2)) ∧ Below w.heap.size w w' := by
  go_enter Try.func59, Try.ntmps59
  go_wp2_with fail
  have hW0 : Below w.heap.size w (w.alloc (.cells #[.bool n1, .slice a1 L1 c1, .bool n2, .slice a2 L2 c2] 29)) := (by repeat (first | exact Below.refl _ _ | refine Below.alloc ?_ ?_ _ | refine Below.setCell ?_ ?_ _ | refine Below.drew ?_ | refine below_drewN ?_ _ | (· simp) | omega | (· simp; omega) | exact Below.size (by assumption) | assumption | refine below_call ?_ (by assumption) ?_))
  have bA : Box4 (w.alloc (.cells #[.bool n1, .slice a1 L1 c1, .bool n2, .slice a2 L2 c2] 29)) w.heap.size (.bool n1) (.slice a1 L1 c1) (.bool n2) (.slice a2 L2 c2) := Box4.new _ _ _ _ _ _ rfl
  generalize w.alloc (.cells #[.bool n1, .slice a1 L1 c1, .bool n2, .slice a2 L2 c2] 29) = W0 at *
  refine (isWithout_any _ n1 a1 L1 c1 hk1).mono ?_
  rintro e w1 ⟨rfl, hb1⟩
  have hW1 := below_call hW0 hb1 hW0.size
  obtain ⟨x0, x1, x2, x3⟩ := (bA.keep hb1).c
  have HZ : Hid (zeroB n1 L1 n2 L2 = ((!n1 && decide (L1 = 0)) && (!n2 && decide (L2 = 0)))) := hid rfl
  clear hb1 bA hW0
  generalize (!n1 && decide (L1 = 0)) = b1 at *
  cases b1
  · go_wp2
    go_ret
    exact ⟨ret_bool (by rw [HZ.out]; rfl), hW1⟩
  · go_wp2_with fail
    refine (isWithout_any _ n2 a2 L2 c2 hk2).mono ?_
    rintro e w2 ⟨rfl, hb2⟩
    have hW2 := below_call hW1 hb2 hW1.size
    clear hb2 x0 x1 x2 x3
    generalize (!n2 && decide (L2 = 0)) = b2 at *
    go_wp2
    go_ret
    exact ⟨ret_bool (by rw [HZ.out]; rfl), hW2⟩

set_option maxHeartbeats 1600000 in
theorem isEnd_any (w : World) (k : Int) (n1 : Bool) (a1 : Option Addr) (L1 c1 : Nat) (n2 : Bool) (a2 : Option Addr) (L2 c2 : Nat) (hk1 : L1 ≤ 9223372036854775807) (hk2 : L2 ≤ 9223372036854775807) :
    Calls Try.prog 43 #[.agg #[.int .i64 k, .bool n1, .slice a1 L1 c1, .bool n2, .slice a2 L2 c2]] w fun e w' => e = .returned (.bool (endB k n1 L1 n2 L2)) ∧ Below w.heap.size w w' := by
  have HE : Hid (endB k n1 L1 n2 L2 = ((decide (k = -1) || decide (k = 1)) && zeroB n1 L1 n2 L2)) := hid rfl
  go_enter Try.func43, Try.ntmps43
  have hW0 : Below w.heap.size w (w.alloc (.cells #[.int .i64 k, .bool n1, .slice a1 L1 c1, .bool n2, .slice a2 L2 c2] 31)) := (by repeat (first | exact Below.refl _ _ | refine Below.alloc ?_ ?_ _ | refine Below.setCell ?_ ?_ _ | refine Below.drew ?_ | refine below_drewN ?_ _ | (· simp) | omega | (· simp; omega) | exact Below.size (by assumption) | assumption | refine below_call ?_ (by assumption) ?_))
  by_cases h1 : k = -1
  · subst h1
    go_wp2_with fail
    refine (isZeroValue_any _ n1 a1 L1 c1 n2 a2 L2 c2 hk1 hk2).mono ?_
    rintro e w1 ⟨rfl, hb1⟩
    have hW1 := below_call hW0 hb1 hW0.size
    clear hb1
    generalize zeroB n1 L1 n2 L2 = b at *
    go_wp2
    go_ret
    exact ⟨ret_bool (by rw [HE.out]; rfl), hW1⟩
  · have hb1 : (k == -1) = false := by simpa using h1
    by_cases h2 : k = 1
    · subst h2
      go_wp2_with fail
      refine (isZeroValue_any _ n1 a1 L1 c1 n2 a2 L2 c2 hk1 hk2).mono ?_
      rintro e w1 ⟨rfl, hb1⟩
      have hW1 := below_call hW0 hb1 hW0.size
      clear hb1
      generalize zeroB n1 L1 n2 L2 = b at *
      go_wp2
      go_ret
      exact ⟨ret_bool (by rw [HE.out]; rfl), hW1⟩
    · have hb2 : (k == 1) = false := by simpa using h2
      have HF : Hid (endB k n1 L1 n2 L2 = false) := hid (by rw [HE.out, decide_eq_false h1, decide_eq_false h2]; rfl)
      clear HE h1 h2
      go_wp2
      go_ret
      exact ⟨ret_bool HF.out.symm, hW0⟩

/-- What it counts as has been told. -/
def ECnts (n : Nat) (x : EX) (w : World) (e : Ending) (w' : World) : Prop :=
  ∃ m1 p1 j1 d1 m2 p2 j2 d2, e = .returned (.agg #[.int .i64 (eK x), .bool m1, .slice p1 j1 d1, .bool m2, .slice p2 j2 d2]) ∧ ECnt w' n m1 p1 j1 d1 m2 p2 j2 d2 x ∧ Below w.heap.size w w'

set_option maxHeartbeats 1600000 in
theorem extCounted_any (w : World) (u : Value) (n : Nat) (x : EX) (h : EArg w u n x) :
    Calls Try.prog 26 #[u] w (ECnts n x w) := by
  obtain ⟨k, n1, a1, c1, l1, n2, a2, c2, l2, rfl, h1, h2, hl1, hl2, rfl⟩ := h
  have hk1 := slat_len h1
  have hk2 := slat_len h2
  have HE : Hid (endB k n1 l1.length n2 l2.length = true → (k = -1 ∧ extMean k n1 l1 n2 l2 = .lo) ∨ (k = 1 ∧ extMean k n1 l1 n2 l2 = .hi)) := hid (fun h => by
    have h0 := h
    unfold endB at h
    simp only [Bool.and_eq_true, Bool.or_eq_true, decide_eq_true_eq] at h
    rcases h.1 with rfl | rfl
    · exact .inl ⟨rfl, by unfold extMean; rw [if_pos h0]; rfl⟩
    · exact .inr ⟨rfl, by unfold extMean; rw [if_pos h0]; rfl⟩)
  have HQ : Hid (endB k n1 l1.length n2 l2.length = false → k = 0 → extMean k n1 l1 n2 l2 = .q (ratMean n1 l1 n2 l2)) := hid (fun h h0 => by unfold extMean; rw [h, if_neg (by simp), if_pos h0])
  have HZ : Hid (endB k n1 l1.length n2 l2.length = false → k ≠ 0 → extMean k n1 l1 n2 l2 = .q 0) := hid (fun h h0 => by unfold extMean; rw [h, if_neg (by simp), if_neg h0])
  have HR : Hid (RArg w (.agg #[.bool n1, .slice a1 l1.length c1, .bool n2, .slice a2 l2.length c2]) n (ratMean n1 l1 n2 l2)) := hid ⟨n1, _, l1, n2, _, l2, rfl, ⟨a1, c1, rfl, h1⟩, ⟨a2, c2, rfl, h2⟩, hl1, hl2, rfl⟩
  generalize ratMean n1 l1 n2 l2 = r at *
  generalize extMean k n1 l1 n2 l2 = x at *
  generalize l1.length = L1 at *
  generalize l2.length = L2 at *
  clear h1 h2
  go_enter Try.func26, Try.ntmps26
  go_wp2_with fail
  have hW0 : Below w.heap.size w ((w.alloc (.cells #[.int .i64 k, .bool n1, .slice a1 L1 c1, .bool n2, .slice a2 L2 c2] 31)).alloc (.cells #[.int .i64 0, .bool false, .slice none 0 0, .bool false, .slice none 0 0] 31)) := (by repeat (first | exact Below.refl _ _ | refine Below.alloc ?_ ?_ _ | refine Below.setCell ?_ ?_ _ | refine Below.drew ?_ | refine below_drewN ?_ _ | (· simp) | omega | (· simp; omega) | exact Below.size (by assumption) | assumption | refine below_call ?_ (by assumption) ?_))
  have bA : Box5 ((w.alloc (.cells #[.int .i64 k, .bool n1, .slice a1 L1 c1, .bool n2, .slice a2 L2 c2] 31)).alloc (.cells #[.int .i64 0, .bool false, .slice none 0 0, .bool false, .slice none 0 0] 31)) w.heap.size (.int .i64 k) (.bool n1) (.slice a1 L1 c1) (.bool n2) (.slice a2 L2 c2) := (Box5.new _ _ _ _ _ _ _ rfl).alloc _
  have bR : Box5 ((w.alloc (.cells #[.int .i64 k, .bool n1, .slice a1 L1 c1, .bool n2, .slice a2 L2 c2] 31)).alloc (.cells #[.int .i64 0, .bool false, .slice none 0 0, .bool false, .slice none 0 0] 31)) (w.heap.size + 1) (.int .i64 0) (.bool false) (.slice none 0 0) (.bool false) (.slice none 0 0) := Box5.new _ _ _ _ _ _ _ (by simp)
  generalize ((w.alloc (.cells #[.int .i64 k, .bool n1, .slice a1 L1 c1, .bool n2, .slice a2 L2 c2] 31)).alloc (.cells #[.int .i64 0, .bool false, .slice none 0 0, .bool false, .slice none 0 0] 31)) = W0 at *
  refine (isEnd_any _ k n1 a1 L1 c1 n2 a2 L2 c2 hk1 hk2).mono ?_
  rintro e w1 ⟨rfl, hb1⟩
  have hW1 := below_call hW0 hb1 hW0.size
  replace bA := bA.keep hb1
  replace bR := bR.keep hb1
  clear hb1 hW0
  obtain ⟨x0, x1, x2, x3, x4⟩ := bA.c
  have lA := bA.lt
  have lR := bR.lt
  have rf := bR.f
  obtain ⟨r0, r1, r2, r3, r4⟩ := bR.c
  have HRW := hid (HR.out.below hW1)
  cases hE : endB k n1 L1 n2 L2
  · by_cases h0 : k = 0
    · have HX := hid (HQ.out hE h0)
      subst h0
      clear HE HQ HZ hE
      have HB := hid (below_fill5 hW1 (show w.heap.size ≤ w.heap.size + 1 by omega) (.int .i64 0) (.bool n1) (.slice a1 L1 c1) (.bool n2) (.slice a2 L2 c2))
      have HF := hid (HRW.out.off5 bR (grow5 w1 (w.heap.size + 1) (.int .i64 0) (.bool n1) (.slice a1 L1 c1) (.bool n2) (.slice a2 L2 c2)))
      clear bA bR
      go_wp2
      refine bodyPost_ret (v := .agg #[.int .i64 0, .bool n1, .slice a1 L1 c1, .bool n2, .slice a2 L2 c2]) ?_ rfl ⟨n1, a1, L1, c1, n2, a2, L2, c2, by rw [HX.out]; rfl, by rw [HX.out]; exact HF.out, HB.out⟩
      simp [results, Try.results26, go_sem, r0, r1, r2, r3, r4]
    · have HX := hid (HZ.out hE h0)
      have hkb : (k == 0) = false := by simpa using h0
      clear HE HQ HZ hE h0
      have HB := hid (below_fill5 hW1 (show w.heap.size ≤ w.heap.size + 1 by omega) (.int .i64 0) (.bool false) (.slice none 0 0) (.bool false) (.slice none 0 0))
      clear bA bR
      go_wp2
      refine bodyPost_ret (v := .agg #[.int .i64 0, .bool false, .slice none 0 0, .bool false, .slice none 0 0]) ?_ rfl ⟨false, none, 0, 0, false, none, 0, 0, by rw [HX.out]; rfl, by rw [HX.out]; exact (rarg_zero _).mono (Nat.zero_le _), HB.out⟩
      simp [results, Try.results26, go_sem, r0, r1, r2, r3, r4]
  · have HX := hid (HE.out hE)
    have HB := hid (below_fill5 hW1 (show w.heap.size ≤ w.heap.size + 1 by omega) (.int .i64 k) (.bool false) (.slice none 0 0) (.bool false) (.slice none 0 0))
    clear HE HQ HZ hE bA bR
    go_wp2
    refine bodyPost_ret (v := .agg #[.int .i64 k, .bool false, .slice none 0 0, .bool false, .slice none 0 0]) ?_ rfl ⟨false, none, 0, 0, false, none, 0, 0, ?_, ?_, HB.out⟩
    · simp [results, Try.results26, go_sem, r0, r1, r2, r3, r4]
    · rcases HX.out with ⟨rfl, h⟩ | ⟨rfl, h⟩ <;> rw [h] <;> rfl
    · rcases HX.out with ⟨rfl, h⟩ | ⟨rfl, h⟩ <;> rw [h] <;> exact ⟨rfl, rfl, rfl, rfl, rfl, rfl, rfl, rfl⟩

end Go.Proofs.Ytalblhcfkfockaa

namespace Go.Proofs.Ytalblhcfkfockaa
open Go.RowKit Lm
set_option linter.unusedSimpArgs false
set_option linter.unusedVariables false
set_option maxRecDepth 100000

theorem EArg.drew {W : World} {v : Value} {n : Nat} {x : EX} (h : EArg W v n x) : EArg W.drew v n x := h

def cmpE : EX → EX → Int
  | .q r, .q s => cmpR r s
  | x, y => cmpI (eK x) (eK y)
def textE : EX → ByteArray
  | .lo => ⟨#[45, 105, 110, 102]⟩
  | .q r => textR r
  | .hi => ⟨#[105, 110, 102]⟩
def addE (x : EX) (t : Rat) : EX := match x with
  | .q r => .q (r + t)
  | z => z

/-- Two boxes have been filled with what they count as. -/
def CntX (w : World) (n m : Nat) (x y : EX) (wc : World) : Prop :=
  ∃ m1 p1 j1 d1 m2 p2 j2 d2 m3 p3 j3 d3 m4 p4 j4 d4, Box5 wc w.heap.size (.int .i64 (eK x)) (.bool m1) (.slice p1 j1 d1) (.bool m2) (.slice p2 j2 d2) ∧ Box5 wc (w.heap.size + 1) (.int .i64 (eK y)) (.bool m3) (.slice p3 j3 d3) (.bool m4) (.slice p4 j4 d4) ∧ ECnt wc n m1 p1 j1 d1 m2 p2 j2 d2 x ∧ ECnt wc m m3 p3 j3 d3 m4 p4 j4 d4 y ∧ Below w.heap.size w wc
section
variable {w W w2 : World} {n m : Nat} {x y : EX} {k1 k2 : Int} {n1 n2 n3 n4 m1 m2 m3 m4 : Bool} {a1 a2 a3 a4 p1 p2 p3 p4 : Option Addr} {L1 c1 L2 c2 L3 c3 L4 c4 j1 d1 j2 d2 j3 d3 j4 d4 : Nat}
theorem cntX_mk (bA : Box5 w2 w.heap.size (.int .i64 k1) (.bool n1) (.slice a1 L1 c1) (.bool n2) (.slice a2 L2 c2)) (bB : Box5 w2 (w.heap.size + 1) (.int .i64 k2) (.bool n3) (.slice a3 L3 c3) (.bool n4) (.slice a4 L4 c4)) (h1 : ECnt w2 n m1 p1 j1 d1 m2 p2 j2 d2 x) (h2 : ECnt w2 m m3 p3 j3 d3 m4 p4 j4 d4 y) (hW : Below w.heap.size w w2) :
    CntX w n m x y (fill5 (fill5 w2 w.heap.size (.int .i64 (eK x)) (.bool m1) (.slice p1 j1 d1) (.bool m2) (.slice p2 j2 d2)) (w.heap.size + 1) (.int .i64 (eK y)) (.bool m3) (.slice p3 j3 d3) (.bool m4) (.slice p4 j4 d4)) := by
  have b2' := bB.beside (show w.heap.size + 1 ≠ w.heap.size by omega) (.int .i64 (eK x)) (.bool m1) (.slice p1 j1 d1) (.bool m2) (.slice p2 j2 d2)
  exact ⟨m1, p1, j1, d1, m2, p2, j2, d2, m3, p3, j3, d3, m4, p4, j4, d4, (bA.filled _ _ _ _ _).beside (by omega) _ _ _ _ _, b2'.filled _ _ _ _ _, (h1.off5 bA (grow5 _ _ _ _ _ _ _)).off5 b2' (grow5 _ _ _ _ _ _ _), (h2.off5 bA (grow5 _ _ _ _ _ _ _)).off5 b2' (grow5 _ _ _ _ _ _ _), below_fill5 (below_fill5 hW (by omega) _ _ _ _ _) (by omega) _ _ _ _ _⟩
theorem cntX_mk' (bA : Box5 w2 w.heap.size (.int .i64 k1) (.bool n1) (.slice a1 L1 c1) (.bool n2) (.slice a2 L2 c2)) (bB : Box5 w2 (w.heap.size + 1) (.int .i64 k2) (.bool n3) (.slice a3 L3 c3) (.bool n4) (.slice a4 L4 c4)) (h1 : ECnt w2 n m1 p1 j1 d1 m2 p2 j2 d2 x) (h2 : ECnt w2 m m3 p3 j3 d3 m4 p4 j4 d4 y) (hW : Below w.heap.size w w2) :
    CntX w n m x y (fill5 (fill5 w2 (w.heap.size + 1) (.int .i64 (eK y)) (.bool m3) (.slice p3 j3 d3) (.bool m4) (.slice p4 j4 d4)) w.heap.size (.int .i64 (eK x)) (.bool m1) (.slice p1 j1 d1) (.bool m2) (.slice p2 j2 d2)) := by
  have b1' := bA.beside (show w.heap.size ≠ w.heap.size + 1 by omega) (.int .i64 (eK y)) (.bool m3) (.slice p3 j3 d3) (.bool m4) (.slice p4 j4 d4)
  exact ⟨m1, p1, j1, d1, m2, p2, j2, d2, m3, p3, j3, d3, m4, p4, j4, d4, b1'.filled _ _ _ _ _, (bB.filled _ _ _ _ _).beside (by omega) _ _ _ _ _, (h1.off5 bB (grow5 _ _ _ _ _ _ _)).off5 b1' (grow5 _ _ _ _ _ _ _), (h2.off5 bB (grow5 _ _ _ _ _ _ _)).off5 b1' (grow5 _ _ _ _ _ _ _), below_fill5 (below_fill5 hW (by omega) _ _ _ _ _) (by omega) _ _ _ _ _⟩
end

set_option maxHeartbeats 3200000 in
theorem extCmp_any (w : World) (u v : Value) (n m : Nat) (x y : EX) (hu : EArg w u n x) (hv : EArg w v m y) (hn : n ≤ 40000) (hm : m ≤ 40000) :
    Calls Try.prog 12 #[u, v] w fun e w' => e = .returned (.int .i64 (cmpE x y)) ∧ Below w.heap.size w w' := by
  have HX := hid hu
  have HY := hid hv
  obtain ⟨k1, n1, a1, L1, c1, n2, a2, L2, c2, rfl⟩ := hu.shape
  obtain ⟨k2, n3, a3, L3, c3, n4, a4, L4, c4, rfl⟩ := hv.shape
  clear hu hv
  go_enter Try.func12, Try.ntmps12
  go_wp2
  have hW0 : Below w.heap.size w ((w.alloc (.cells #[.int .i64 k1, .bool n1, .slice a1 L1 c1, .bool n2, .slice a2 L2 c2] 31)).alloc (.cells #[.int .i64 k2, .bool n3, .slice a3 L3 c3, .bool n4, .slice a4 L4 c4] 31)) := (by repeat (first | exact Below.refl _ _ | refine Below.alloc ?_ ?_ _ | refine Below.setCell ?_ ?_ _ | refine Below.drew ?_ | refine below_drewN ?_ _ | (· simp) | omega | (· simp; omega) | exact Below.size (by assumption) | assumption | refine below_call ?_ (by assumption) ?_))
  have bA : Box5 ((w.alloc (.cells #[.int .i64 k1, .bool n1, .slice a1 L1 c1, .bool n2, .slice a2 L2 c2] 31)).alloc (.cells #[.int .i64 k2, .bool n3, .slice a3 L3 c3, .bool n4, .slice a4 L4 c4] 31)) w.heap.size (.int .i64 k1) (.bool n1) (.slice a1 L1 c1) (.bool n2) (.slice a2 L2 c2) := (Box5.new _ _ _ _ _ _ _ rfl).alloc _
  have bB : Box5 ((w.alloc (.cells #[.int .i64 k1, .bool n1, .slice a1 L1 c1, .bool n2, .slice a2 L2 c2] 31)).alloc (.cells #[.int .i64 k2, .bool n3, .slice a3 L3 c3, .bool n4, .slice a4 L4 c4] 31)) (w.heap.size + 1) (.int .i64 k2) (.bool n3) (.slice a3 L3 c3) (.bool n4) (.slice a4 L4 c4) := Box5.new _ _ _ _ _ _ _ (by simp)
  generalize (w.alloc (.cells #[.int .i64 k1, .bool n1, .slice a1 L1 c1, .bool n2, .slice a2 L2 c2] 31)).alloc (.cells #[.int .i64 k2, .bool n3, .slice a3 L3 c3, .bool n4, .slice a4 L4 c4] 31) = W0 at *
  replace HX := hid (HX.out.below hW0)
  replace HY := hid (HY.out.below hW0)
  obtain ⟨x0, x1, x2, x3, x4⟩ := bA.c
  obtain ⟨y0, y1, y2, y3, y4⟩ := bB.c
  have lA0 := bA.lt
  have lB0 := bB.lt
  go_cut [] (fun wc => CntX w n m x y wc)
  case first =>
    go_region_with (first
      | (go_at_call_of 26 (Value.agg #[Value.int .i64 k1, Value.bool n1, Value.slice a1 L1 c1, Value.bool n2, Value.slice a2 L2 c2]); refine (extCounted_any _ _ n x HX.out.drew).mono ?_; rintro e w1 ⟨m1, p1, j1, d1, m2, p2, j2, d2, rfl, hc1, hb1d⟩; have hb1 := below_undrew hb1d; clear hb1d; replace bA := bA.keep hb1; replace bB := bB.keep hb1; have hW1 := below_call hW0 hb1 hW0.size; replace HY := hid (HY.out.below hb1); (try clear x0 x1 x2 x3 x4 y0 y1 y2 y3 y4); obtain ⟨x0, x1, x2, x3, x4⟩ := bA.c; obtain ⟨y0, y1, y2, y3, y4⟩ := bB.c; have lA := bA.lt; have lB := bB.lt)
      | (go_at_call_of 26 (Value.agg #[Value.int .i64 k2, Value.bool n3, Value.slice a3 L3 c3, Value.bool n4, Value.slice a4 L4 c4]); refine (extCounted_any _ _ m y HY.out).mono ?_; rintro e w2 ⟨m3, p3, j3, d3, m4, p4, j4, d4, rfl, hc2, hb2⟩; replace bA := bA.keep hb2; replace bB := bB.keep hb2; have hW2 := below_call hW1 hb2 hW1.size; replace hc1 := hc1.below hb2; (try clear x0 x1 x2 x3 x4 y0 y1 y2 y3 y4); obtain ⟨x0, x1, x2, x3, x4⟩ := bA.c; obtain ⟨y0, y1, y2, y3, y4⟩ := bB.c; have lA2 := bA.lt; have lB2 := bB.lt; have fA := bA.f; have fB := bB.f))
    all_goals (go_wp2_with fail; go_meet; first | exact cntX_mk bA bB hc1 hc2 hW2 | exact cntX_mk' bA bB hc1 hc2 hW2)
  case rest =>
    obtain ⟨m1, p1, j1, d1, m2, p2, j2, d2, m3, p3, j3, d3, m4, p4, j4, d4, b1, b2, hc1, hc2, hWc⟩ := hcut
    clear x0 x1 x2 x3 x4 y0 y1 y2 y3 y4 lA0 lB0 bA bB hW0 HX HY
    obtain ⟨x0, x1, x2, x3, x4⟩ := b1.c
    obtain ⟨y0, y1, y2, y3, y4⟩ := b2.c
    clear b1 b2
    cases x with
    | lo =>
      cases y <;> (clear hc1 hc2; simp only [eK] at x0 y0; go_wp2_with fail; refine (compareInt _ _ _).mono ?_; rintro e w5 ⟨rfl, rfl⟩; go_wp2; go_ret; exact ⟨rfl, hWc⟩)
    | hi =>
      cases y <;> (clear hc1 hc2; simp only [eK] at x0 y0; go_wp2_with fail; refine (compareInt _ _ _).mono ?_; rintro e w5 ⟨rfl, rfl⟩; go_wp2; go_ret; exact ⟨rfl, hWc⟩)
    | q r =>
      cases y with
      | lo => clear hc1 hc2; simp only [eK] at x0 y0; go_wp2_with fail; refine (compareInt _ _ _).mono ?_; rintro e w5 ⟨rfl, rfl⟩; go_wp2; go_ret; exact ⟨rfl, hWc⟩
      | hi => clear hc1 hc2; simp only [eK] at x0 y0; go_wp2_with fail; refine (compareInt _ _ _).mono ?_; rintro e w5 ⟨rfl, rfl⟩; go_wp2; go_ret; exact ⟨rfl, hWc⟩
      | q s =>
        have H1 : Hid (RArg wc _ n r) := hid hc1
        have H2 : Hid (RArg wc _ m s) := hid hc2
        clear hc1 hc2
        simp only [eK] at x0 y0
        go_wp2_with fail
        refine (ratCmp_any _ _ _ n m r s H1.out H2.out hn hm).mono ?_
        rintro e w5 ⟨rfl, hb⟩
        have hW5 := below_call hWc hb hWc.size
        clear x0 x1 x2 x3 x4 y0 y1 y2 y3 y4
        go_wp2
        go_ret
        exact ⟨rfl, hW5⟩

set_option maxHeartbeats 3200000 in
theorem extText_any (w : World) (u : Value) (n : Nat) (x : EX) (hu : EArg w u n x) (hn : n ≤ 30000) :
    Calls Try.prog 22 #[u] w fun e w' => e = .returned (.string (textE x)) ∧ Below w.heap.size w w' := by
  have HX := hid hu
  obtain ⟨k1, n1, a1, L1, c1, n2, a2, L2, c2, rfl⟩ := hu.shape
  clear hu
  go_enter Try.func22, Try.ntmps22
  go_wp2_with fail
  have hW0 : Below w.heap.size w (w.alloc (.cells #[.int .i64 k1, .bool n1, .slice a1 L1 c1, .bool n2, .slice a2 L2 c2] 31)) := (by repeat (first | exact Below.refl _ _ | refine Below.alloc ?_ ?_ _ | refine Below.setCell ?_ ?_ _ | refine Below.drew ?_ | refine below_drewN ?_ _ | (· simp) | omega | (· simp; omega) | exact Below.size (by assumption) | assumption | refine below_call ?_ (by assumption) ?_))
  have bA : Box5 (w.alloc (.cells #[.int .i64 k1, .bool n1, .slice a1 L1 c1, .bool n2, .slice a2 L2 c2] 31)) w.heap.size (.int .i64 k1) (.bool n1) (.slice a1 L1 c1) (.bool n2) (.slice a2 L2 c2) := Box5.new _ _ _ _ _ _ _ rfl
  generalize w.alloc (.cells #[.int .i64 k1, .bool n1, .slice a1 L1 c1, .bool n2, .slice a2 L2 c2] 31) = W0 at *
  refine (extCounted_any _ _ n x (HX.out.below hW0)).mono ?_
  rintro e w1 ⟨m1, p1, j1, d1, m2, p2, j2, d2, rfl, hc1, hb1⟩
  replace bA := bA.keep hb1
  have hW1 := below_fill5 (below_call hW0 hb1 hW0.size) (show w.heap.size ≤ w.heap.size by omega) (.int .i64 (eK x)) (.bool m1) (.slice p1 j1 d1) (.bool m2) (.slice p2 j2 d2)
  replace hc1 := hc1.off5 bA (grow5 w1 w.heap.size (.int .i64 (eK x)) (.bool m1) (.slice p1 j1 d1) (.bool m2) (.slice p2 j2 d2))
  obtain ⟨x0, x1, x2, x3, x4⟩ := bA.c
  have xf := bA.f
  have xl := bA.lt
  clear hb1 hW0 bA HX
  cases x with
  | lo =>
    clear hc1
    simp only [eK] at *
    go_wp2
    go_ret
    exact ⟨rfl, hW1⟩
  | hi =>
    clear hc1
    simp only [eK] at *
    go_wp2
    go_ret
    exact ⟨rfl, hW1⟩
  | q r =>
    have H1 : Hid (RArg _ _ n r) := hid hc1
    clear hc1
    simp only [eK] at *
    go_wp2_with fail
    rw [fill5_eq]
    refine (ratText_any _ _ n r H1.out hn).mono ?_
    rintro e w5 ⟨rfl, hb⟩
    have hW5 := below_call hW1 hb hW1.size
    clear x0 x1 x2 x3 x4 xf xl
    go_wp2
    go_ret
    exact ⟨rfl, hW5⟩

end Go.Proofs.Ytalblhcfkfockaa

namespace Go.Proofs.Ytalblhcfkfockaa
open Go.RowKit Lm
set_option linter.unusedSimpArgs false
set_option linter.unusedVariables false
set_option maxRecDepth 100000

/-- A quotient with ends has been told. -/
def ETold (n : Nat) (x : EX) (w : World) (e : Ending) (w' : World) : Prop :=
  ∃ m1 p1 j1 d1 m2 p2 j2 d2, e = .returned (.agg #[.int .i64 (eK x), .bool m1, .slice p1 j1 d1, .bool m2, .slice p2 j2 d2]) ∧ EIs w' n m1 p1 j1 d1 m2 p2 j2 d2 x ∧ Below w.heap.size w w'

set_option maxHeartbeats 3200000 in
theorem extAdd_any (w : World) (u v : Value) (n m : Nat) (x : EX) (t : Rat) (hu : EArg w u n x) (hv : RArg w v m t) (hn : n ≤ 10000) (hm : m ≤ 10000) :
    Calls Try.prog 41 #[u, v] w (ETold (4 * n + 4 * m + 18) (addE x t) w) := by
  have HX := hid hu
  have HY := hid hv
  obtain ⟨k1, n1, a1, L1, c1, n2, a2, L2, c2, rfl⟩ := hu.shape
  obtain ⟨n3, a3, L3, c3, n4, a4, L4, c4, rfl⟩ := hv.shape
  clear hu hv
  go_enter Try.func41, Try.ntmps41
  go_wp2_with fail
  have hW0 : Below w.heap.size w (((w.alloc (.cells #[.int .i64 k1, .bool n1, .slice a1 L1 c1, .bool n2, .slice a2 L2 c2] 31)).alloc (.cells #[.bool n3, .slice a3 L3 c3, .bool n4, .slice a4 L4 c4] 29)).alloc (.cells #[.int .i64 0, .bool false, .slice none 0 0, .bool false, .slice none 0 0] 31)) := (by repeat (first | exact Below.refl _ _ | refine Below.alloc ?_ ?_ _ | refine Below.setCell ?_ ?_ _ | refine Below.drew ?_ | refine below_drewN ?_ _ | (· simp) | omega | (· simp; omega) | exact Below.size (by assumption) | assumption | refine below_call ?_ (by assumption) ?_))
  have bA : Box5 (((w.alloc (.cells #[.int .i64 k1, .bool n1, .slice a1 L1 c1, .bool n2, .slice a2 L2 c2] 31)).alloc (.cells #[.bool n3, .slice a3 L3 c3, .bool n4, .slice a4 L4 c4] 29)).alloc (.cells #[.int .i64 0, .bool false, .slice none 0 0, .bool false, .slice none 0 0] 31)) w.heap.size (.int .i64 k1) (.bool n1) (.slice a1 L1 c1) (.bool n2) (.slice a2 L2 c2) := ((Box5.new _ _ _ _ _ _ _ rfl).alloc _).alloc _
  have bB : Box4 (((w.alloc (.cells #[.int .i64 k1, .bool n1, .slice a1 L1 c1, .bool n2, .slice a2 L2 c2] 31)).alloc (.cells #[.bool n3, .slice a3 L3 c3, .bool n4, .slice a4 L4 c4] 29)).alloc (.cells #[.int .i64 0, .bool false, .slice none 0 0, .bool false, .slice none 0 0] 31)) (w.heap.size + 1) (.bool n3) (.slice a3 L3 c3) (.bool n4) (.slice a4 L4 c4) := (Box4.new _ _ _ _ _ _ (by simp)).alloc _
  have bR : Box5 (((w.alloc (.cells #[.int .i64 k1, .bool n1, .slice a1 L1 c1, .bool n2, .slice a2 L2 c2] 31)).alloc (.cells #[.bool n3, .slice a3 L3 c3, .bool n4, .slice a4 L4 c4] 29)).alloc (.cells #[.int .i64 0, .bool false, .slice none 0 0, .bool false, .slice none 0 0] 31)) (w.heap.size + 1 + 1) (.int .i64 0) (.bool false) (.slice none 0 0) (.bool false) (.slice none 0 0) := Box5.new _ _ _ _ _ _ _ (by simp)
  generalize (((w.alloc (.cells #[.int .i64 k1, .bool n1, .slice a1 L1 c1, .bool n2, .slice a2 L2 c2] 31)).alloc (.cells #[.bool n3, .slice a3 L3 c3, .bool n4, .slice a4 L4 c4] 29)).alloc (.cells #[.int .i64 0, .bool false, .slice none 0 0, .bool false, .slice none 0 0] 31)) = W0 at *
  refine (extCounted_any _ _ n x (HX.out.below hW0)).mono ?_
  rintro e w1 ⟨m1, p1, j1, d1, m2, p2, j2, d2, rfl, hc1, hb1⟩
  replace bA := bA.keep hb1
  replace bB := bB.keep hb1
  replace bR := bR.keep hb1
  have hw1 := below_call hW0 hb1 hW0.size
  have hW1 := below_fill5 hw1 (show w.heap.size ≤ w.heap.size by omega) (.int .i64 (eK x)) (.bool m1) (.slice p1 j1 d1) (.bool m2) (.slice p2 j2 d2)
  replace hc1 := hc1.off5 bA (grow5 w1 w.heap.size (.int .i64 (eK x)) (.bool m1) (.slice p1 j1 d1) (.bool m2) (.slice p2 j2 d2))
  have HT := hid ((HY.out.below hw1).off5 bA (grow5 w1 w.heap.size (.int .i64 (eK x)) (.bool m1) (.slice p1 j1 d1) (.bool m2) (.slice p2 j2 d2)))
  have bR2 := bR.beside (show w.heap.size + 1 + 1 ≠ w.heap.size by omega) (.int .i64 (eK x)) (.bool m1) (.slice p1 j1 d1) (.bool m2) (.slice p2 j2 d2)
  obtain ⟨x0, x1, x2, x3, x4⟩ := bA.c
  have xf := bA.f
  have xl := bA.lt
  obtain ⟨y0, y1, y2, y3⟩ := bB.c
  have yl := bB.lt
  obtain ⟨r0, r1, r2, r3, r4⟩ := bR.c
  have rf := bR.f
  have rl := bR.lt
  clear hb1 hW0 bA bB bR HX HY
  cases x with
  | lo =>
    obtain ⟨rfl, rfl, rfl, rfl, rfl, rfl, rfl, rfl⟩ := hc1
    have HB := hid (below_fill5 hW1 (show w.heap.size ≤ w.heap.size + 1 + 1 by omega) (.int .i64 (-1)) (.bool false) (.slice none 0 0) (.bool false) (.slice none 0 0))
    clear HT bR2
    simp only [eK] at *
    go_wp2
    refine bodyPost_ret (v := .agg #[.int .i64 (-1), .bool false, .slice none 0 0, .bool false, .slice none 0 0]) ?_ rfl ⟨false, none, 0, 0, false, none, 0, 0, rfl, ⟨rfl, rfl, rfl, rfl, rfl, rfl, rfl, rfl⟩, HB.out⟩
    simp [results, Try.results41, go_sem, r0, r1, r2, r3, r4]
  | hi =>
    obtain ⟨rfl, rfl, rfl, rfl, rfl, rfl, rfl, rfl⟩ := hc1
    have HB := hid (below_fill5 hW1 (show w.heap.size ≤ w.heap.size + 1 + 1 by omega) (.int .i64 1) (.bool false) (.slice none 0 0) (.bool false) (.slice none 0 0))
    clear HT bR2
    simp only [eK] at *
    go_wp2
    refine bodyPost_ret (v := .agg #[.int .i64 1, .bool false, .slice none 0 0, .bool false, .slice none 0 0]) ?_ rfl ⟨false, none, 0, 0, false, none, 0, 0, rfl, ⟨rfl, rfl, rfl, rfl, rfl, rfl, rfl, rfl⟩, HB.out⟩
    simp [results, Try.results41, go_sem, r0, r1, r2, r3, r4]
  | q r =>
    have H1 : Hid (RArg _ _ n r) := hid hc1
    clear hc1
    simp only [eK] at *
    go_wp2_with fail
    clear x0 x1 x2 x3 x4 xf xl y0 y1 y2 y3 yl r0 r1 r2 r3 r4 rf rl
    rw [fill5_eq]
    generalize fill5 w1 w.heap.size (.int .i64 0) (.bool m1) (.slice p1 j1 d1) (.bool m2) (.slice p2 j2 d2) = W1 at *
    refine (ratAdd_any _ _ _ n m r t H1.out HT.out hn hm).mono ?_
    rintro e w5 ⟨m3, p3, j3, d3, m4, p4, j4, d4, rfl, HI, hb⟩
    have hW5 := below_call hW1 hb hW1.size
    have bR5 := bR2.keep hb
    have HS := hid (HI.off5 bR5 (grow5 w5 (w.heap.size + 1 + 1) (.int .i64 0) (.bool m3) (.slice p3 j3 d3) (.bool m4) (.slice p4 j4 d4)))
    have HB := hid (below_fill5 hW5 (show w.heap.size ≤ w.heap.size + 1 + 1 by omega) (.int .i64 0) (.bool m3) (.slice p3 j3 d3) (.bool m4) (.slice p4 j4 d4))
    obtain ⟨r0, r1, r2, r3, r4⟩ := bR5.c
    have rf := bR5.f
    have rl := bR5.lt
    clear hb HI bR2 bR5 H1 HT
    go_wp2
    refine bodyPost_ret (v := .agg #[.int .i64 0, .bool m3, .slice p3 j3 d3, .bool m4, .slice p4 j4 d4]) ?_ rfl ⟨m3, p3, j3, d3, m4, p4, j4, d4, rfl, HS.out, HB.out⟩
    simp [results, Try.results41, go_sem, r0, r1, r2, r3, r4]

theorem addE_zero (x : EX) : addE x 0 = x := by
  cases x with
  | lo => rfl
  | hi => rfl
  | q r => show EX.q (r + 0) = _; rw [Rat.add_zero]

set_option maxHeartbeats 3200000 in
theorem extTold_any (w : World) (u : Value) (n : Nat) (x : EX) (hu : EArg w u n x) (hn : n ≤ 10000) :
    Calls Try.prog 23 #[u] w (ETold (4 * n + 18) x w) := by
  have HX := hid hu
  obtain ⟨k1, n1, a1, L1, c1, n2, a2, L2, c2, rfl⟩ := hu.shape
  clear hu
  go_enter Try.func23, Try.ntmps23
  go_wp2_with fail
  have hW0 : Below w.heap.size w ((w.alloc (.cells #[.int .i64 k1, .bool n1, .slice a1 L1 c1, .bool n2, .slice a2 L2 c2] 31)).alloc (.cells #[.int .i64 0, .bool false, .slice none 0 0, .bool false, .slice none 0 0] 31)) := (by repeat (first | exact Below.refl _ _ | refine Below.alloc ?_ ?_ _ | refine Below.setCell ?_ ?_ _ | refine Below.drew ?_ | refine below_drewN ?_ _ | (· simp) | omega | (· simp; omega) | exact Below.size (by assumption) | assumption | refine below_call ?_ (by assumption) ?_))
  have bR : Box5 ((w.alloc (.cells #[.int .i64 k1, .bool n1, .slice a1 L1 c1, .bool n2, .slice a2 L2 c2] 31)).alloc (.cells #[.int .i64 0, .bool false, .slice none 0 0, .bool false, .slice none 0 0] 31)) (w.heap.size + 1) (.int .i64 0) (.bool false) (.slice none 0 0) (.bool false) (.slice none 0 0) := Box5.new _ _ _ _ _ _ _ (by simp)
  generalize ((w.alloc (.cells #[.int .i64 k1, .bool n1, .slice a1 L1 c1, .bool n2, .slice a2 L2 c2] 31)).alloc (.cells #[.int .i64 0, .bool false, .slice none 0 0, .bool false, .slice none 0 0] 31)) = W0 at *
  refine (extAdd_any _ _ _ n 0 x 0 (HX.out.below hW0) (rarg_zero _) hn (by omega)).mono ?_
  rintro e w1 ⟨m1, p1, j1, d1, m2, p2, j2, d2, rfl, hI, hb1⟩
  rw [addE_zero] at *
  replace bR := bR.keep hb1
  have HS := hid (hI.off5 bR (grow5 w1 (w.heap.size + 1) (.int .i64 (eK x)) (.bool m1) (.slice p1 j1 d1) (.bool m2) (.slice p2 j2 d2)))
  have HB := hid (below_fill5 (below_call hW0 hb1 hW0.size) (show w.heap.size ≤ w.heap.size + 1 by omega) (.int .i64 (eK x)) (.bool m1) (.slice p1 j1 d1) (.bool m2) (.slice p2 j2 d2))
  obtain ⟨r0, r1, r2, r3, r4⟩ := bR.c
  have rf := bR.f
  have rl := bR.lt
  clear hb1 hI bR HX
  go_wp2
  refine bodyPost_ret (v := .agg #[.int .i64 (eK x), .bool m1, .slice p1 j1 d1, .bool m2, .slice p2 j2 d2]) ?_ rfl ⟨m1, p1, j1, d1, m2, p2, j2, d2, rfl, HS.out, HB.out⟩
  simp [results, Try.results23, go_sem, r0, r1, r2, r3, r4]

end Go.Proofs.Ytalblhcfkfockaa

namespace Go.Proofs.Ytalblhcfkfockaa
open Go.RowKit Lm
set_option linter.unusedSimpArgs false
set_option linter.unusedVariables false
set_option maxRecDepth 100000

/-- The one behind where the order tells less. -/
def pickV (c : Int) (u v : Value) : Value := if c < 0 then v else u
theorem pickV_lt {c : Int} {u v : Value} (h : c < 0) : pickV c u v = v := if_pos h
theorem pickV_ge {c : Int} {u v : Value} (h : ¬ c < 0) : pickV c u v = u := if_neg h

set_option maxHeartbeats 3200000 in
theorem greater_cmp (w : World) (u v : Value) (n m : Nat) (x y : EX) (hu : EArg w u n x) (hv : EArg w v m y) (hn : n ≤ 40000) (hm : m ≤ 40000) :
    Calls Try.prog 24 #[.func (.func 12) #[] #[], u, v] w fun e w' => e = .returned (pickV (cmpE x y) u v) ∧ Below w.heap.size w w' := by
  have HX := hid hu
  have HY := hid hv
  obtain ⟨k1, n1, a1, L1, c1, n2, a2, L2, c2, rfl⟩ := hu.shape
  obtain ⟨k2, n3, a3, L3, c3, n4, a4, L4, c4, rfl⟩ := hv.shape
  clear hu hv
  go_enter Try.func24, Try.ntmps24
  go_wp2_with fail
  have hW0 : Below w.heap.size w (((w.alloc (.cells #[.int .i64 k1, .bool n1, .slice a1 L1 c1, .bool n2, .slice a2 L2 c2] 31)).alloc (.cells #[.int .i64 k2, .bool n3, .slice a3 L3 c3, .bool n4, .slice a4 L4 c4] 31)).alloc (.cells #[.int .i64 0, .bool false, .slice none 0 0, .bool false, .slice none 0 0] 31)) := (by repeat (first | exact Below.refl _ _ | refine Below.alloc ?_ ?_ _ | refine Below.setCell ?_ ?_ _ | refine Below.drew ?_ | refine below_drewN ?_ _ | (· simp) | omega | (· simp; omega) | exact Below.size (by assumption) | assumption | refine below_call ?_ (by assumption) ?_))
  have bA : Box5 (((w.alloc (.cells #[.int .i64 k1, .bool n1, .slice a1 L1 c1, .bool n2, .slice a2 L2 c2] 31)).alloc (.cells #[.int .i64 k2, .bool n3, .slice a3 L3 c3, .bool n4, .slice a4 L4 c4] 31)).alloc (.cells #[.int .i64 0, .bool false, .slice none 0 0, .bool false, .slice none 0 0] 31)) w.heap.size (.int .i64 k1) (.bool n1) (.slice a1 L1 c1) (.bool n2) (.slice a2 L2 c2) := ((Box5.new _ _ _ _ _ _ _ rfl).alloc _).alloc _
  have bB : Box5 (((w.alloc (.cells #[.int .i64 k1, .bool n1, .slice a1 L1 c1, .bool n2, .slice a2 L2 c2] 31)).alloc (.cells #[.int .i64 k2, .bool n3, .slice a3 L3 c3, .bool n4, .slice a4 L4 c4] 31)).alloc (.cells #[.int .i64 0, .bool false, .slice none 0 0, .bool false, .slice none 0 0] 31)) (w.heap.size + 1) (.int .i64 k2) (.bool n3) (.slice a3 L3 c3) (.bool n4) (.slice a4 L4 c4) := (Box5.new _ _ _ _ _ _ _ (by simp)).alloc _
  have bR : Box5 (((w.alloc (.cells #[.int .i64 k1, .bool n1, .slice a1 L1 c1, .bool n2, .slice a2 L2 c2] 31)).alloc (.cells #[.int .i64 k2, .bool n3, .slice a3 L3 c3, .bool n4, .slice a4 L4 c4] 31)).alloc (.cells #[.int .i64 0, .bool false, .slice none 0 0, .bool false, .slice none 0 0] 31)) (w.heap.size + 1 + 1) (.int .i64 0) (.bool false) (.slice none 0 0) (.bool false) (.slice none 0 0) := Box5.new _ _ _ _ _ _ _ (by simp)
  generalize (((w.alloc (.cells #[.int .i64 k1, .bool n1, .slice a1 L1 c1, .bool n2, .slice a2 L2 c2] 31)).alloc (.cells #[.int .i64 k2, .bool n3, .slice a3 L3 c3, .bool n4, .slice a4 L4 c4] 31)).alloc (.cells #[.int .i64 0, .bool false, .slice none 0 0, .bool false, .slice none 0 0] 31)) = W0 at *
  refine (extCmp_any _ _ _ n m x y (HX.out.below hW0) (HY.out.below hW0) hn hm).mono ?_
  rintro e w1 ⟨rfl, hb1⟩
  obtain ⟨x0, x1, x2, x3, x4⟩ := (bA.keep hb1).c
  obtain ⟨y0, y1, y2, y3, y4⟩ := (bB.keep hb1).c
  obtain ⟨r0, r1, r2, r3, r4⟩ := (bR.keep hb1).c
  have rf := (bR.keep hb1).f
  have lR := (bR.keep hb1).lt
  have hW1 := below_call hW0 hb1 hW0.size
  clear hb1 bA bB bR HX HY hW0
  by_cases hc : cmpE x y < 0
  · have HC := hid hc
    have HB := hid (below_fill5 hW1 (show w.heap.size ≤ w.heap.size + 1 + 1 by omega) (.int .i64 k2) (.bool n3) (.slice a3 L3 c3) (.bool n4) (.slice a4 L4 c4))
    go_wp2
    refine bodyPost_ret (v := Value.agg #[Value.int .i64 k2, Value.bool n3, Value.slice a3 L3 c3, Value.bool n4, Value.slice a4 L4 c4]) ?_ rfl ⟨by rw [pickV_lt HC.out], HB.out⟩
    simp [results, Try.results24, go_sem, r0, r1, r2, r3, r4]
  · have HC := hid hc
    have HB := hid (below_fill5 hW1 (show w.heap.size ≤ w.heap.size + 1 + 1 by omega) (.int .i64 k1) (.bool n1) (.slice a1 L1 c1) (.bool n2) (.slice a2 L2 c2))
    go_wp2
    refine bodyPost_ret (v := Value.agg #[Value.int .i64 k1, Value.bool n1, Value.slice a1 L1 c1, Value.bool n2, Value.slice a2 L2 c2]) ?_ rfl ⟨by rw [pickV_ge (by have := HC.out; omega)], HB.out⟩
    simp [results, Try.results24, go_sem, r0, r1, r2, r3, r4]

def maxE (x y : EX) : EX := if cmpE x y < 0 then y else x
def minE (x y : EX) : EX := if cmpE y x < 0 then y else x

set_option maxHeartbeats 3200000 in
theorem extMax_any (w : World) (u v : Value) (n : Nat) (x y : EX) (hu : EArg w u n x) (hv : EArg w v n y) (hn : n ≤ 10000) :
    Calls Try.prog 10 #[u, v] w (ETold (4 * n + 18) (maxE x y) w) := by
  have HX := hid hu
  have HY := hid hv
  have HG : Hid (∀ W, EArg W u n x → EArg W v n y → EArg W (pickV (cmpE x y) u v) n (maxE x y)) := hid (fun W h1 h2 => by unfold maxE pickV; split <;> assumption)
  obtain ⟨k1, n1, a1, L1, c1, n2, a2, L2, c2, rfl⟩ := hu.shape
  obtain ⟨k2, n3, a3, L3, c3, n4, a4, L4, c4, rfl⟩ := hv.shape
  clear hu hv
  go_enter Try.func10, Try.ntmps10
  go_wp2_with fail
  have hW0 : Below w.heap.size w (((w.alloc (.cells #[.int .i64 k1, .bool n1, .slice a1 L1 c1, .bool n2, .slice a2 L2 c2] 31)).alloc (.cells #[.int .i64 k2, .bool n3, .slice a3 L3 c3, .bool n4, .slice a4 L4 c4] 31)).alloc (.cells #[.int .i64 0, .bool false, .slice none 0 0, .bool false, .slice none 0 0] 31)) := (by repeat (first | exact Below.refl _ _ | refine Below.alloc ?_ ?_ _ | refine Below.setCell ?_ ?_ _ | refine Below.drew ?_ | refine below_drewN ?_ _ | (· simp) | omega | (· simp; omega) | exact Below.size (by assumption) | assumption | refine below_call ?_ (by assumption) ?_))
  have bR : Box5 (((w.alloc (.cells #[.int .i64 k1, .bool n1, .slice a1 L1 c1, .bool n2, .slice a2 L2 c2] 31)).alloc (.cells #[.int .i64 k2, .bool n3, .slice a3 L3 c3, .bool n4, .slice a4 L4 c4] 31)).alloc (.cells #[.int .i64 0, .bool false, .slice none 0 0, .bool false, .slice none 0 0] 31)) (w.heap.size + 1 + 1) (.int .i64 0) (.bool false) (.slice none 0 0) (.bool false) (.slice none 0 0) := Box5.new _ _ _ _ _ _ _ (by simp)
  generalize (((w.alloc (.cells #[.int .i64 k1, .bool n1, .slice a1 L1 c1, .bool n2, .slice a2 L2 c2] 31)).alloc (.cells #[.int .i64 k2, .bool n3, .slice a3 L3 c3, .bool n4, .slice a4 L4 c4] 31)).alloc (.cells #[.int .i64 0, .bool false, .slice none 0 0, .bool false, .slice none 0 0] 31)) = W0 at *
  refine (greater_cmp _ _ _ n n x y (HX.out.below hW0) (HY.out.below hW0) (by omega) (by omega)).mono ?_
  rintro e w1 ⟨rfl, hb1⟩
  have hW1 := below_call hW0 hb1 hW0.size
  have HM := hid (HG.out w1 (HX.out.below hW1) (HY.out.below hW1))
  replace bR := bR.keep hb1
  clear hb1 hW0 HX HY HG
  generalize pickV (cmpE x y) (Value.agg #[Value.int .i64 k1, Value.bool n1, Value.slice a1 L1 c1, Value.bool n2, Value.slice a2 L2 c2]) (Value.agg #[Value.int .i64 k2, Value.bool n3, Value.slice a3 L3 c3, Value.bool n4, Value.slice a4 L4 c4]) = z at *
  generalize maxE x y = mx at *
  go_wp2_with fail
  refine (extTold_any _ _ n mx HM.out hn).mono ?_
  rintro e w2 ⟨m1, p1, j1, d1, m2, p2, j2, d2, rfl, hI, hb2⟩
  have hW2 := below_call hW1 hb2 hW1.size
  replace bR := bR.keep hb2
  have HS := hid (hI.off5 bR (grow5 w2 (w.heap.size + 1 + 1) (.int .i64 (eK mx)) (.bool m1) (.slice p1 j1 d1) (.bool m2) (.slice p2 j2 d2)))
  have HB := hid (below_fill5 hW2 (show w.heap.size ≤ w.heap.size + 1 + 1 by omega) (.int .i64 (eK mx)) (.bool m1) (.slice p1 j1 d1) (.bool m2) (.slice p2 j2 d2))
  obtain ⟨r0, r1, r2, r3, r4⟩ := bR.c
  have rf := bR.f
  have rl := bR.lt
  clear hb2 hI bR HM
  go_wp2
  refine bodyPost_ret (v := .agg #[.int .i64 (eK mx), .bool m1, .slice p1 j1 d1, .bool m2, .slice p2 j2 d2]) ?_ rfl ⟨m1, p1, j1, d1, m2, p2, j2, d2, rfl, HS.out, HB.out⟩
  simp [results, Try.results10, go_sem, r0, r1, r2, r3, r4]

/-- A box of one cell. -/
def Box1 (w : World) (g : Nat) (v : Value) : Prop := ∃ T, w.heap[g]? = some (.cells #[v] T (0, 0))
theorem Box1.lt {w : World} {g : Nat} {v : Value} (h : Box1 w g v) : g < w.heap.size := by
  obtain ⟨T, h⟩ := h
  exact (Array.getElem?_eq_some_iff.1 h).1
theorem Box1.c {w : World} {g : Nat} {v : Value} (h : Box1 w g v) : w.cell? ⟨g, 0, none⟩ = some v := by
  obtain ⟨T, h⟩ := h
  rw [cell_of_row w g 0 #[v] T (0, 0) h]
  rfl
theorem Box1.keep {w w' : World} {g : Nat} {v : Value} (h : Box1 w g v) (hb : Below w.heap.size w w') : Box1 w' g v := by
  have hl := h.lt
  obtain ⟨T, h⟩ := h
  exact ⟨T, (hb.block g hl).trans h⟩
theorem Box1.new (w : World) (v : Value) (T : TypeId) : Box1 (w.alloc (.cells #[v] T)) w.heap.size v := ⟨T, heap_alloc_new w _⟩

theorem turned_any (w : World) :
    Calls Try.prog 25 #[.func (.func 12) #[] #[]] w fun e w' => ∃ g, e = .returned (.func (.func 42) #[] #[.pointer (some ⟨g, 0, none⟩)]) ∧ Box1 w' g (.func (.func 12) #[] #[]) ∧ Below w.heap.size w w' := by
  go_enter Try.func25, Try.ntmps25
  go_wp2
  go_ret
  exact ⟨_, rfl, Box1.new _ _ _, (Below.refl _ _).alloc (Nat.le_refl _) _⟩

set_option maxHeartbeats 3200000 in
theorem turned1_any (w : World) (g : Nat) (u v : Value) (n m : Nat) (x y : EX) (hg : Box1 w g (.func (.func 12) #[] #[])) (hu : EArg w u n x) (hv : EArg w v m y) (hn : n ≤ 40000) (hm : m ≤ 40000) :
    Calls Try.prog 42 #[u, v, .pointer (some ⟨g, 0, none⟩)] w fun e w' => e = .returned (.int .i64 (cmpE y x)) ∧ Below w.heap.size w w' := by
  have HX := hid hu
  have HY := hid hv
  obtain ⟨k1, n1, a1, L1, c1, n2, a2, L2, c2, rfl⟩ := hu.shape
  obtain ⟨k2, n3, a3, L3, c3, n4, a4, L4, c4, rfl⟩ := hv.shape
  clear hu hv
  have hW0 : Below w.heap.size w ((w.alloc (.cells #[.int .i64 k1, .bool n1, .slice a1 L1 c1, .bool n2, .slice a2 L2 c2] 31)).alloc (.cells #[.int .i64 k2, .bool n3, .slice a3 L3 c3, .bool n4, .slice a4 L4 c4] 31)) := (by repeat (first | exact Below.refl _ _ | refine Below.alloc ?_ ?_ _ | refine Below.setCell ?_ ?_ _ | refine Below.drew ?_ | refine below_drewN ?_ _ | (· simp) | omega | (· simp; omega) | exact Below.size (by assumption) | assumption | refine below_call ?_ (by assumption) ?_))
  have g0 := hg.c
  have gl := hg.lt
  go_enter Try.func42, Try.ntmps42
  go_wp2_with fail
  generalize (w.alloc (.cells #[.int .i64 k1, .bool n1, .slice a1 L1 c1, .bool n2, .slice a2 L2 c2] 31)).alloc (.cells #[.int .i64 k2, .bool n3, .slice a3 L3 c3, .bool n4, .slice a4 L4 c4] 31) = W0 at *
  refine (extCmp_any _ _ _ m n y x (HY.out.below hW0) (HX.out.below hW0) hm hn).mono ?_
  rintro e w1 ⟨rfl, hb1⟩
  have hW1 := below_call hW0 hb1 hW0.size
  clear hb1 g0 gl
  go_wp2
  go_ret
  exact ⟨rfl, hW1⟩

set_option maxHeartbeats 3200000 in
theorem greater_turned (w : World) (g : Nat) (u v : Value) (n m : Nat) (x y : EX) (hg : Box1 w g (.func (.func 12) #[] #[])) (hu : EArg w u n x) (hv : EArg w v m y) (hn : n ≤ 40000) (hm : m ≤ 40000) :
    Calls Try.prog 24 #[.func (.func 42) #[] #[.pointer (some ⟨g, 0, none⟩)], u, v] w fun e w' => e = .returned (pickV (cmpE y x) u v) ∧ Below w.heap.size w w' := by
  have HX := hid hu
  have HY := hid hv
  obtain ⟨k1, n1, a1, L1, c1, n2, a2, L2, c2, rfl⟩ := hu.shape
  obtain ⟨k2, n3, a3, L3, c3, n4, a4, L4, c4, rfl⟩ := hv.shape
  clear hu hv
  go_enter Try.func24, Try.ntmps24
  go_wp2_with fail
  have hW0 : Below w.heap.size w (((w.alloc (.cells #[.int .i64 k1, .bool n1, .slice a1 L1 c1, .bool n2, .slice a2 L2 c2] 31)).alloc (.cells #[.int .i64 k2, .bool n3, .slice a3 L3 c3, .bool n4, .slice a4 L4 c4] 31)).alloc (.cells #[.int .i64 0, .bool false, .slice none 0 0, .bool false, .slice none 0 0] 31)) := (by repeat (first | exact Below.refl _ _ | refine Below.alloc ?_ ?_ _ | refine Below.setCell ?_ ?_ _ | refine Below.drew ?_ | refine below_drewN ?_ _ | (· simp) | omega | (· simp; omega) | exact Below.size (by assumption) | assumption | refine below_call ?_ (by assumption) ?_))
  have bA : Box5 (((w.alloc (.cells #[.int .i64 k1, .bool n1, .slice a1 L1 c1, .bool n2, .slice a2 L2 c2] 31)).alloc (.cells #[.int .i64 k2, .bool n3, .slice a3 L3 c3, .bool n4, .slice a4 L4 c4] 31)).alloc (.cells #[.int .i64 0, .bool false, .slice none 0 0, .bool false, .slice none 0 0] 31)) w.heap.size (.int .i64 k1) (.bool n1) (.slice a1 L1 c1) (.bool n2) (.slice a2 L2 c2) := ((Box5.new _ _ _ _ _ _ _ rfl).alloc _).alloc _
  have bB : Box5 (((w.alloc (.cells #[.int .i64 k1, .bool n1, .slice a1 L1 c1, .bool n2, .slice a2 L2 c2] 31)).alloc (.cells #[.int .i64 k2, .bool n3, .slice a3 L3 c3, .bool n4, .slice a4 L4 c4] 31)).alloc (.cells #[.int .i64 0, .bool false, .slice none 0 0, .bool false, .slice none 0 0] 31)) (w.heap.size + 1) (.int .i64 k2) (.bool n3) (.slice a3 L3 c3) (.bool n4) (.slice a4 L4 c4) := (Box5.new _ _ _ _ _ _ _ (by simp)).alloc _
  have bR : Box5 (((w.alloc (.cells #[.int .i64 k1, .bool n1, .slice a1 L1 c1, .bool n2, .slice a2 L2 c2] 31)).alloc (.cells #[.int .i64 k2, .bool n3, .slice a3 L3 c3, .bool n4, .slice a4 L4 c4] 31)).alloc (.cells #[.int .i64 0, .bool false, .slice none 0 0, .bool false, .slice none 0 0] 31)) (w.heap.size + 1 + 1) (.int .i64 0) (.bool false) (.slice none 0 0) (.bool false) (.slice none 0 0) := Box5.new _ _ _ _ _ _ _ (by simp)
  generalize (((w.alloc (.cells #[.int .i64 k1, .bool n1, .slice a1 L1 c1, .bool n2, .slice a2 L2 c2] 31)).alloc (.cells #[.int .i64 k2, .bool n3, .slice a3 L3 c3, .bool n4, .slice a4 L4 c4] 31)).alloc (.cells #[.int .i64 0, .bool false, .slice none 0 0, .bool false, .slice none 0 0] 31)) = W0 at *
  refine (turned1_any _ g _ _ n m x y (hg.keep hW0) (HX.out.below hW0) (HY.out.below hW0) hn hm).mono ?_
  rintro e w1 ⟨rfl, hb1⟩
  obtain ⟨x0, x1, x2, x3, x4⟩ := (bA.keep hb1).c
  obtain ⟨y0, y1, y2, y3, y4⟩ := (bB.keep hb1).c
  obtain ⟨r0, r1, r2, r3, r4⟩ := (bR.keep hb1).c
  have rf := (bR.keep hb1).f
  have lR := (bR.keep hb1).lt
  have hW1 := below_call hW0 hb1 hW0.size
  clear hb1 bA bB bR HX HY hW0
  by_cases hc : cmpE y x < 0
  · have HC := hid hc
    have HB := hid (below_fill5 hW1 (show w.heap.size ≤ w.heap.size + 1 + 1 by omega) (.int .i64 k2) (.bool n3) (.slice a3 L3 c3) (.bool n4) (.slice a4 L4 c4))
    go_wp2
    refine bodyPost_ret (v := Value.agg #[Value.int .i64 k2, Value.bool n3, Value.slice a3 L3 c3, Value.bool n4, Value.slice a4 L4 c4]) ?_ rfl ⟨by rw [pickV_lt HC.out], HB.out⟩
    simp [results, Try.results24, go_sem, r0, r1, r2, r3, r4]
  · have HC := hid hc
    have HB := hid (below_fill5 hW1 (show w.heap.size ≤ w.heap.size + 1 + 1 by omega) (.int .i64 k1) (.bool n1) (.slice a1 L1 c1) (.bool n2) (.slice a2 L2 c2))
    go_wp2
    refine bodyPost_ret (v := Value.agg #[Value.int .i64 k1, Value.bool n1, Value.slice a1 L1 c1, Value.bool n2, Value.slice a2 L2 c2]) ?_ rfl ⟨by rw [pickV_ge (by have := HC.out; omega)], HB.out⟩
    simp [results, Try.results24, go_sem, r0, r1, r2, r3, r4]

theorem keep55 {U W : World} {a b : Nat} {k p q r s k' p' q' r' s' : Value} (h1 : Box5 U a k p q r s) (h2 : Box5 U b k' p' q' r' s') (hb : Below U.heap.size U W) :
    W.cell? ⟨a, 0, none⟩ = some k ∧ W.cell? ⟨a, 1, none⟩ = some p ∧ W.cell? ⟨a, 2, none⟩ = some q ∧ W.cell? ⟨a, 3, none⟩ = some r ∧ W.cell? ⟨a, 4, none⟩ = some s ∧ W.cell? ⟨b, 0, none⟩ = some k' ∧ W.cell? ⟨b, 1, none⟩ = some p' ∧ W.cell? ⟨b, 2, none⟩ = some q' ∧ W.cell? ⟨b, 3, none⟩ = some r' ∧ W.cell? ⟨b, 4, none⟩ = some s' := by
  obtain ⟨x0, x1, x2, x3, x4⟩ := (h1.keep hb).c
  obtain ⟨y0, y1, y2, y3, y4⟩ := (h2.keep hb).c
  exact ⟨x0, x1, x2, x3, x4, y0, y1, y2, y3, y4⟩

set_option maxHeartbeats 3200000 in
theorem extMin_any (w : World) (u v : Value) (n : Nat) (x y : EX) (hu : EArg w u n x) (hv : EArg w v n y) (hn : n ≤ 10000) :
    Calls Try.prog 11 #[u, v] w (ETold (4 * n + 18) (minE x y) w) := by
  have HX := hid hu
  have HY := hid hv
  have HG : Hid (∀ W, EArg W u n x → EArg W v n y → EArg W (pickV (cmpE y x) u v) n (minE x y)) := hid (fun W h1 h2 => by unfold minE pickV; split <;> assumption)
  obtain ⟨k1, n1, a1, L1, c1, n2, a2, L2, c2, rfl⟩ := hu.shape
  obtain ⟨k2, n3, a3, L3, c3, n4, a4, L4, c4, rfl⟩ := hv.shape
  clear hu hv
  go_enter Try.func11, Try.ntmps11
  go_wp2_with fail
  have hW0 : Below w.heap.size w (((w.alloc (.cells #[.int .i64 k1, .bool n1, .slice a1 L1 c1, .bool n2, .slice a2 L2 c2] 31)).alloc (.cells #[.int .i64 k2, .bool n3, .slice a3 L3 c3, .bool n4, .slice a4 L4 c4] 31)).alloc (.cells #[.int .i64 0, .bool false, .slice none 0 0, .bool false, .slice none 0 0] 31)) := (by repeat (first | exact Below.refl _ _ | refine Below.alloc ?_ ?_ _ | refine Below.setCell ?_ ?_ _ | refine Below.drew ?_ | refine below_drewN ?_ _ | (· simp) | omega | (· simp; omega) | exact Below.size (by assumption) | assumption | refine below_call ?_ (by assumption) ?_))
  have bA : Box5 (((w.alloc (.cells #[.int .i64 k1, .bool n1, .slice a1 L1 c1, .bool n2, .slice a2 L2 c2] 31)).alloc (.cells #[.int .i64 k2, .bool n3, .slice a3 L3 c3, .bool n4, .slice a4 L4 c4] 31)).alloc (.cells #[.int .i64 0, .bool false, .slice none 0 0, .bool false, .slice none 0 0] 31)) w.heap.size (.int .i64 k1) (.bool n1) (.slice a1 L1 c1) (.bool n2) (.slice a2 L2 c2) := ((Box5.new _ _ _ _ _ _ _ rfl).alloc _).alloc _
  have bB : Box5 (((w.alloc (.cells #[.int .i64 k1, .bool n1, .slice a1 L1 c1, .bool n2, .slice a2 L2 c2] 31)).alloc (.cells #[.int .i64 k2, .bool n3, .slice a3 L3 c3, .bool n4, .slice a4 L4 c4] 31)).alloc (.cells #[.int .i64 0, .bool false, .slice none 0 0, .bool false, .slice none 0 0] 31)) (w.heap.size + 1) (.int .i64 k2) (.bool n3) (.slice a3 L3 c3) (.bool n4) (.slice a4 L4 c4) := (Box5.new _ _ _ _ _ _ _ (by simp)).alloc _
  have bR : Box5 (((w.alloc (.cells #[.int .i64 k1, .bool n1, .slice a1 L1 c1, .bool n2, .slice a2 L2 c2] 31)).alloc (.cells #[.int .i64 k2, .bool n3, .slice a3 L3 c3, .bool n4, .slice a4 L4 c4] 31)).alloc (.cells #[.int .i64 0, .bool false, .slice none 0 0, .bool false, .slice none 0 0] 31)) (w.heap.size + 1 + 1) (.int .i64 0) (.bool false) (.slice none 0 0) (.bool false) (.slice none 0 0) := Box5.new _ _ _ _ _ _ _ (by simp)
  generalize (((w.alloc (.cells #[.int .i64 k1, .bool n1, .slice a1 L1 c1, .bool n2, .slice a2 L2 c2] 31)).alloc (.cells #[.int .i64 k2, .bool n3, .slice a3 L3 c3, .bool n4, .slice a4 L4 c4] 31)).alloc (.cells #[.int .i64 0, .bool false, .slice none 0 0, .bool false, .slice none 0 0] 31)) = W0 at *
  have HK : Below W0.heap.size W0 W0.drew := (Below.refl _ _).drew
  go_region_held3 (fun W' => W'.cell? ⟨w.heap.size, 0, none⟩ = some (.int .i64 k1) ∧ W'.cell? ⟨w.heap.size, 1, none⟩ = some (.bool n1) ∧ W'.cell? ⟨w.heap.size, 2, none⟩ = some (.slice a1 L1 c1) ∧ W'.cell? ⟨w.heap.size, 3, none⟩ = some (.bool n2) ∧ W'.cell? ⟨w.heap.size, 4, none⟩ = some (.slice a2 L2 c2) ∧ W'.cell? ⟨w.heap.size + 1, 0, none⟩ = some (.int .i64 k2) ∧ W'.cell? ⟨w.heap.size + 1, 1, none⟩ = some (.bool n3) ∧ W'.cell? ⟨w.heap.size + 1, 2, none⟩ = some (.slice a3 L3 c3) ∧ W'.cell? ⟨w.heap.size + 1, 3, none⟩ = some (.bool n4) ∧ W'.cell? ⟨w.heap.size + 1, 4, none⟩ = some (.slice a4 L4 c4)) (first | exact keep55 bA bB HK | exact keep55 ((bA.keep HK).beside (by omega) _ _ _ _ _) ((bB.keep HK).beside (by omega) _ _ _ _ _) (Below.refl _ _)) (first
    | (go_at_call 25; go_must (refine (turned_any _).mono ?_); rintro e w1 ⟨g, rfl, hg, hb1⟩; have HK2 := below_call HK hb1 HK.size; clear HK; have HK := HK2; clear HK2 hb1)
    | (go_at_call 24; go_must (refine (greater_turned _ g _ _ n n x y hg (HX.out.below (below_call hW0 HK hW0.size)) (HY.out.below (below_call hW0 HK hW0.size)) (by omega) (by omega)).mono ?_); rintro e w2 ⟨rfl, hb2⟩; have HK2 := below_call HK hb2 HK.size; clear HK; have HK := HK2; clear HK2 hb2; have HM := hid (HG.out w2 (HX.out.below (below_call hW0 HK hW0.size)) (HY.out.below (below_call hW0 HK hW0.size))))
    | (go_at_call 23; go_must (refine (extTold_any _ _ n _ HM.out hn).mono ?_); rintro e w3 ⟨m1, p1, j1, d1, m2, p2, j2, d2, rfl, hI, hb3⟩; have HK2 := below_call HK hb3 HK.size; clear HK; have HK := HK2; clear HK2 hb3; obtain ⟨r0, r1, r2, r3, r4⟩ := (bR.keep HK).c; have rf := (bR.keep HK).f; have rl := (bR.keep HK).lt))
  generalize minE x y = mx at *
  have HS := hid (hI.off5 (bR.keep HK) (grow5 w3 (w.heap.size + 1 + 1) (.int .i64 (eK mx)) (.bool m1) (.slice p1 j1 d1) (.bool m2) (.slice p2 j2 d2)))
  have HB := hid (below_fill5 (below_call hW0 HK hW0.size) (show w.heap.size ≤ w.heap.size + 1 + 1 by omega) (.int .i64 (eK mx)) (.bool m1) (.slice p1 j1 d1) (.bool m2) (.slice p2 j2 d2))
  clear hI bR bA bB HM HX HY HG hg HK
  go_wp2
  refine bodyPost_ret (v := .agg #[.int .i64 (eK mx), .bool m1, .slice p1 j1 d1, .bool m2, .slice p2 j2 d2]) ?_ rfl ⟨m1, p1, j1, d1, m2, p2, j2, d2, rfl, HS.out, HB.out⟩
  simp [results, Try.results11, go_sem, r0, r1, r2, r3, r4]

end Go.Proofs.Ytalblhcfkfockaa
