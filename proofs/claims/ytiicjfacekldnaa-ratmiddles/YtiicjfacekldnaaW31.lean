/-
  Walks: quotients in memory; Of.
-/
import Derived.Test.YtiicjfacekldnaaW30
namespace Go.Proofs.Ytiicjfacekldnaa
open Go.RowKit Lm
set_option linter.unusedSimpArgs false
set_option linter.unusedVariables false
set_option maxRecDepth 100000

/-- A box of four cells: a quotient. -/
def Box4 (w : World) (b : Nat) (p q r s : Value) : Prop := w.heap[b]? = some (.cells #[p, q, r, s] 43 (0, 0))
theorem Box4.lt {w : World} {b : Nat} {p q r s : Value} (h : Box4 w b p q r s) : b < w.heap.size := (Array.getElem?_eq_some_iff.1 h).1
theorem Box4.c {w : World} {b : Nat} {p q r s : Value} (h : Box4 w b p q r s) : w.cell? ⟨b, 0, none⟩ = some p ∧ w.cell? ⟨b, 1, none⟩ = some q ∧ w.cell? ⟨b, 2, none⟩ = some r ∧ w.cell? ⟨b, 3, none⟩ = some s := by
  refine ⟨?_, ?_, ?_, ?_⟩
  · rw [cell_of_row w b 0 #[p, q, r, s] 43 (0, 0) h]; rfl
  · rw [cell_of_row w b 1 #[p, q, r, s] 43 (0, 0) h]; rfl
  · rw [cell_of_row w b 2 #[p, q, r, s] 43 (0, 0) h]; rfl
  · rw [cell_of_row w b 3 #[p, q, r, s] 43 (0, 0) h]; rfl
theorem Box4.f {w : World} {b : Nat} {p q r s : Value} (h : Box4 w b p q r s) (i : Nat) : w.frozen? ⟨b, i, none⟩ = false := frozen_of_row w b i #[p, q, r, s] 43 h
theorem Box4.new (w : World) (p q r s : Value) (b : Nat) (hb : b = w.heap.size) : Box4 (w.alloc (.cells #[p, q, r, s] 43)) b p q r s := by subst hb; exact heap_alloc_new w _
theorem Box4.keep {w w' : World} {b : Nat} {p q r s : Value} (h : Box4 w b p q r s) (hb : Below w.heap.size w w') : Box4 w' b p q r s := (hb.block b h.lt).trans h

/-- What is told as a quotient: two numbers. -/
def RTold (lo n : Nat) (x y : Int) (w : World) (e : Ending) (w' : World) : Prop :=
  ∃ n1 a1 k1 c1 n2 a2 k2 c2, e = .returned (.agg #[.bool n1, .slice a1 k1 c1, .bool n2, .slice a2 k2 c2]) ∧ Is w' lo (.agg #[.bool n1, .slice a1 k1 c1]) n x ∧ Is w' lo (.agg #[.bool n2, .slice a2 k2 c2]) n y ∧ Below w.heap.size w w'

set_option maxHeartbeats 1600000 in
theorem ratOf_any (w : World) (z : Int) (h1 : -9223372036854775808 ≤ z) (h2 : z ≤ 9223372036854775807) :
    Calls Try.prog 41 #[.int .i64 z] w (RTold w.heap.size 2 z 1 w) := by
  go_enter Try.func41, Try.ntmps41
  go_wp2_with fail
  refine (of_num _ z h1 h2).mono ?_
  rintro e w1 ⟨n1, a1, k1, c1, rfl, I1, hb1⟩
  have bx1 := (Box4.new w (.bool false) (.slice none 0 0) (.bool false) (.slice none 0 0) w.heap.size rfl).keep hb1
  have hW1 : Below w.heap.size w w1 := (by repeat (first | exact Below.refl _ _ | refine Below.alloc ?_ ?_ _ | refine Below.setCell ?_ ?_ _ | refine Below.drew ?_ | refine below_drewN ?_ _ | (· simp) | omega | (· simp; omega) | exact Below.size (by assumption) | assumption | refine below_call ?_ (by assumption) ?_))
  have hz1 := hb1.size
  simp only [asize] at hz1
  clear hb1
  go_wp2_with fail
  refine (of_num _ 1 (by omega) (by omega)).mono ?_
  rintro e w2 ⟨n2, a2, k2, c2, rfl, I2, hb2⟩
  have bx2 := bx1.keep hb2
  have hW2 := below_call hW1 hb2 hW1.size
  have J1 := hid (I1.below hb2)
  have J2 := hid I2
  have hz2 := hb2.size
  obtain ⟨x0, x1, x2, x3⟩ := bx2.c
  have xf := bx2.f
  clear hb2 bx1 bx2 I1 I2
  go_wp2
  refine bodyPost_ret (v := .agg #[.bool n1, .slice a1 k1 c1, .bool n2, .slice a2 k2 c2]) ?_ rfl ⟨n1, a1, k1, c1, n2, a2, k2, c2, rfl, ?_, ?_, (by repeat (first | exact Below.refl _ _ | refine Below.alloc ?_ ?_ _ | refine Below.setCell ?_ ?_ _ | refine Below.drew ?_ | refine below_drewN ?_ _ | (· simp) | omega | (· simp; omega) | exact Below.size (by assumption) | assumption | refine below_call ?_ (by assumption) ?_))⟩
  · simp [results, Try.results41, go_sem, x0, x1, x2, x3]
  · exact ((((J1.out.setCell (by simp) _).setCell (by simp) _).setCell (by simp) _).setCell (by simp) _).mono (by simp) (Nat.le_refl _)
  · exact ((((J2.out.setCell (by show w.heap.size < _; omega) _).setCell (by show w.heap.size < _; omega) _).setCell (by show w.heap.size < _; omega) _).setCell (by show w.heap.size < _; omega) _).mono (by omega) (Nat.le_refl _)

end Go.Proofs.Ytiicjfacekldnaa
