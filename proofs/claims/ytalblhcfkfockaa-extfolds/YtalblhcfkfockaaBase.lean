/-
  What it means, in memory, that a value is a slice of limbs, and that it is a number.
-/
import Derived.Test.YtalblhcfkfockaaRows
import Derived.Test.YtalblhcfkfockaaMath
import Derived.WalkKit
import Derived.WalkSpells
import Derived.WalkLawsBesides
import Derived.Laws.CopyOwn
import Derived.Deep.RegionHeld3
import Derived.Deep.QuietTactic
import Derived.BigQuiet
import Derived.Deep.DeepMust
import Derived.WalkSmall
import Derived.Deep.LoopGhost
import Derived.Deep.DeepCutAuto
import Derived.Deep.RegionWith
namespace Go.Proofs.Ytalblhcfkfockaa
open Go.RowKit Lm
set_option linter.unusedSimpArgs false
set_option linter.unusedVariables false
set_option maxRecDepth 100000

theorem hid {p : Prop} (h : p) : Hid p := h

/-- The limbs as cells. -/
def U (l : List Nat) : List Value := l.map (fun (x : Nat) => Value.int .u32 (x : Int))

/-- The address, length and room of a slice that reads as these limbs. -/
def SlAt (w : World) (ao : Option Addr) (cap : Nat) (l : List Nat) : Prop :=
  ok l ∧ l.length ≤ cap ∧ cap ≤ maxLen ∧ ((l.length = 0 ∧ (ao = none → cap = 0)) ∨ ∃ b off, ao = some ⟨b, off, none⟩ ∧ b < w.heap.size ∧ ∀ i, i < l.length → w.cell? ⟨b, off + i, none⟩ = some (.int .u32 ((l.getD i 0 : Nat) : Int)))

/-- The value v is a slice that reads as these limbs. -/
def Sl (w : World) (v : Value) (l : List Nat) : Prop := ∃ ao cap, v = .slice ao l.length cap ∧ SlAt w ao cap l

/-- What is handed in as a number: a sign and limbs, at most n of them, that count as z. -/
def Arg (w : World) (v : Value) (n : Nat) (z : Int) : Prop := ∃ neg sv l, v = .agg #[.bool neg, sv] ∧ Sl w sv l ∧ l.length ≤ n ∧ z = mean neg l

/-- From the block lo on. -/
def From (lo : Nat) (ao : Option Addr) : Prop := ∀ ad, ao = some ad → lo ≤ ad.block

/-- What is told as a number, in memory from the block lo on: it may be. -/
def Is (w : World) (lo : Nat) (v : Value) (n : Nat) (z : Int) : Prop := ∃ neg ao cap l, v = .agg #[.bool neg, .slice ao l.length cap] ∧ SlAt w ao cap l ∧ From lo ao ∧ l.length ≤ n ∧ mayB neg l = true ∧ z = sgn neg (val l)

theorem Is.arg {w : World} {lo : Nat} {v : Value} {n : Nat} {z : Int} (h : Is w lo v n z) : Arg w v n z := by
  obtain ⟨neg, ao, cap, l, hv, hs, hf, hl, hm, hz⟩ := h
  exact ⟨neg, _, l, hv, ⟨ao, cap, rfl, hs⟩, hl, by rw [hz]; unfold mean; rw [hm]; rfl⟩

theorem SlAt.below {w w' : World} {ao : Option Addr} {cap : Nat} {l : List Nat} (h : SlAt w ao cap l) (hb : Below w.heap.size w w') : SlAt w' ao cap l := by
  obtain ⟨h1, h2, h3, h4⟩ := h
  refine ⟨h1, h2, h3, ?_⟩
  rcases h4 with h4 | ⟨b, off, e, hlt, hc⟩
  · exact .inl h4
  · exact .inr ⟨b, off, e, Nat.lt_of_lt_of_le hlt hb.size, fun i hi => (hb.cell (p := ⟨b, off + i, none⟩) hlt).trans (hc i hi)⟩
theorem Sl.below {w w' : World} {v : Value} {l : List Nat} (h : Sl w v l) (hb : Below w.heap.size w w') : Sl w' v l := by
  obtain ⟨ao, cap, e, h1⟩ := h
  exact ⟨ao, cap, e, h1.below hb⟩
theorem Arg.below {w w' : World} {v : Value} {n : Nat} {z : Int} (h : Arg w v n z) (hb : Below w.heap.size w w') : Arg w' v n z := by
  obtain ⟨neg, sv, l, hv, hs, hr⟩ := h
  exact ⟨neg, sv, l, hv, hs.below hb, hr⟩
theorem Is.below {w w' : World} {lo : Nat} {v : Value} {n : Nat} {z : Int} (h : Is w lo v n z) (hb : Below w.heap.size w w') : Is w' lo v n z := by
  obtain ⟨neg, ao, cap, l, hv, hs, hr⟩ := h
  exact ⟨neg, ao, cap, l, hv, hs.below hb, hr⟩
theorem SlAt.setCell {w : World} {lo : Nat} {ao : Option Addr} {cap : Nat} {l : List Nat} (h : SlAt w ao cap l) (hf : From lo ao) {p : Addr} (hp : p.block < lo) (u : Value) : SlAt (w.setCell p u) ao cap l := by
  obtain ⟨h1, h2, h3, h4⟩ := h
  refine ⟨h1, h2, h3, ?_⟩
  rcases h4 with h4 | ⟨b, off, e, hlt, hc⟩
  · exact .inl h4
  · have hb : lo ≤ b := hf _ e
    refine .inr ⟨b, off, e, by simpa [World.setCell] using hlt, fun i hi => ?_⟩
    rw [World.cell?_of_block (w := w) (Below.heap_setCell w p u b (by omega))]
    exact hc i hi
theorem Is.setCell {w : World} {lo : Nat} {v : Value} {n : Nat} {z : Int} (h : Is w lo v n z) {p : Addr} (hp : p.block < lo) (u : Value) : Is (w.setCell p u) lo v n z := by
  obtain ⟨neg, ao, cap, l, hv, hs, hf, hr⟩ := h
  exact ⟨neg, ao, cap, l, hv, hs.setCell hf hp u, hf, hr⟩
theorem Is.mono {w : World} {lo lo' : Nat} {v : Value} {n n' : Nat} {z : Int} (h : Is w lo v n z) (hlo : lo' ≤ lo) (hn : n ≤ n') : Is w lo' v n' z := by
  obtain ⟨neg, ao, cap, l, hv, hs, hf, hl, hr⟩ := h
  exact ⟨neg, ao, cap, l, hv, hs, fun ad e => Nat.le_trans hlo (hf ad e), Nat.le_trans hl hn, hr⟩
theorem SlAt.alloc {w : World} {ao : Option Addr} {cap : Nat} {l : List Nat} (h : SlAt w ao cap l) (o : Obj) : SlAt (w.alloc o) ao cap l := h.below ((Below.refl _ _).alloc (Nat.le_refl _) o)
theorem Is.alloc {w : World} {lo : Nat} {v : Value} {n : Nat} {z : Int} (h : Is w lo v n z) (o : Obj) : Is (w.alloc o) lo v n z := h.below ((Below.refl _ _).alloc (Nat.le_refl _) o)
theorem SlAt.drew {w : World} {ao : Option Addr} {cap : Nat} {l : List Nat} (h : SlAt w ao cap l) : SlAt w.drew ao cap l := h
theorem Is.drew {w : World} {lo : Nat} {v : Value} {n : Nat} {z : Int} (h : Is w lo v n z) : Is w.drew lo v n z := h

/-- Behind a call all old cells and all old marks read as they did. -/
theorem bcell {W w1 : World} (hb : Below W.heap.size W w1) : (∀ b o, b < W.heap.size → w1.cell? ⟨b, o, none⟩ = W.cell? ⟨b, o, none⟩) ∧ (∀ b o, b < W.heap.size → w1.frozen? ⟨b, o, none⟩ = W.frozen? ⟨b, o, none⟩) :=
  ⟨fun b o h => hb.cell (p := ⟨b, o, none⟩) h, fun b o h => hb.frozen (p := ⟨b, o, none⟩) h⟩

@[simp, go_sem] theorem lt_more2 (n : Nat) : n < n + 1 + 1 := by omega
@[simp, go_sem] theorem le_more2 (n : Nat) : n ≤ n + 1 + 1 := by omega
@[simp, go_sem] theorem lt_more2_1 (n : Nat) : n + 1 < n + 1 + 1 := by omega
@[simp, go_sem] theorem le_more2_1 (n : Nat) : n + 1 ≤ n + 1 + 1 := by omega
@[simp, go_sem] theorem lt_more3 (n : Nat) : n < n + 1 + 1 + 1 := by omega
@[simp, go_sem] theorem le_more3 (n : Nat) : n ≤ n + 1 + 1 + 1 := by omega
@[simp, go_sem] theorem lt_more3_1 (n : Nat) : n + 1 < n + 1 + 1 + 1 := by omega
@[simp, go_sem] theorem le_more3_1 (n : Nat) : n + 1 ≤ n + 1 + 1 + 1 := by omega
@[simp, go_sem] theorem lt_more3_2 (n : Nat) : n + 1 + 1 < n + 1 + 1 + 1 := by omega
@[simp, go_sem] theorem le_more3_2 (n : Nat) : n + 1 + 1 ≤ n + 1 + 1 + 1 := by omega
@[simp, go_sem] theorem ltc_more3_2 (n : Nat) : n + 2 < n + 1 + 1 + 1 := by omega
@[simp, go_sem] theorem lec_more3_2 (n : Nat) : n + 2 ≤ n + 1 + 1 + 1 := by omega
@[simp, go_sem] theorem lt_more4 (n : Nat) : n < n + 1 + 1 + 1 + 1 := by omega
@[simp, go_sem] theorem le_more4 (n : Nat) : n ≤ n + 1 + 1 + 1 + 1 := by omega
@[simp, go_sem] theorem lt_more4_1 (n : Nat) : n + 1 < n + 1 + 1 + 1 + 1 := by omega
@[simp, go_sem] theorem le_more4_1 (n : Nat) : n + 1 ≤ n + 1 + 1 + 1 + 1 := by omega
@[simp, go_sem] theorem lt_more4_2 (n : Nat) : n + 1 + 1 < n + 1 + 1 + 1 + 1 := by omega
@[simp, go_sem] theorem le_more4_2 (n : Nat) : n + 1 + 1 ≤ n + 1 + 1 + 1 + 1 := by omega
@[simp, go_sem] theorem ltc_more4_2 (n : Nat) : n + 2 < n + 1 + 1 + 1 + 1 := by omega
@[simp, go_sem] theorem lec_more4_2 (n : Nat) : n + 2 ≤ n + 1 + 1 + 1 + 1 := by omega
@[simp, go_sem] theorem lt_more4_3 (n : Nat) : n + 1 + 1 + 1 < n + 1 + 1 + 1 + 1 := by omega
@[simp, go_sem] theorem le_more4_3 (n : Nat) : n + 1 + 1 + 1 ≤ n + 1 + 1 + 1 + 1 := by omega
@[simp, go_sem] theorem ltc_more4_3 (n : Nat) : n + 3 < n + 1 + 1 + 1 + 1 := by omega
@[simp, go_sem] theorem lec_more4_3 (n : Nat) : n + 3 ≤ n + 1 + 1 + 1 + 1 := by omega
@[simp, go_sem] theorem lt_more5 (n : Nat) : n < n + 1 + 1 + 1 + 1 + 1 := by omega
@[simp, go_sem] theorem le_more5 (n : Nat) : n ≤ n + 1 + 1 + 1 + 1 + 1 := by omega
@[simp, go_sem] theorem lt_more5_1 (n : Nat) : n + 1 < n + 1 + 1 + 1 + 1 + 1 := by omega
@[simp, go_sem] theorem le_more5_1 (n : Nat) : n + 1 ≤ n + 1 + 1 + 1 + 1 + 1 := by omega
@[simp, go_sem] theorem lt_more5_2 (n : Nat) : n + 1 + 1 < n + 1 + 1 + 1 + 1 + 1 := by omega
@[simp, go_sem] theorem le_more5_2 (n : Nat) : n + 1 + 1 ≤ n + 1 + 1 + 1 + 1 + 1 := by omega
@[simp, go_sem] theorem ltc_more5_2 (n : Nat) : n + 2 < n + 1 + 1 + 1 + 1 + 1 := by omega
@[simp, go_sem] theorem lec_more5_2 (n : Nat) : n + 2 ≤ n + 1 + 1 + 1 + 1 + 1 := by omega
@[simp, go_sem] theorem lt_more5_3 (n : Nat) : n + 1 + 1 + 1 < n + 1 + 1 + 1 + 1 + 1 := by omega
@[simp, go_sem] theorem le_more5_3 (n : Nat) : n + 1 + 1 + 1 ≤ n + 1 + 1 + 1 + 1 + 1 := by omega
@[simp, go_sem] theorem ltc_more5_3 (n : Nat) : n + 3 < n + 1 + 1 + 1 + 1 + 1 := by omega
@[simp, go_sem] theorem lec_more5_3 (n : Nat) : n + 3 ≤ n + 1 + 1 + 1 + 1 + 1 := by omega
@[simp, go_sem] theorem lt_more5_4 (n : Nat) : n + 1 + 1 + 1 + 1 < n + 1 + 1 + 1 + 1 + 1 := by omega
@[simp, go_sem] theorem le_more5_4 (n : Nat) : n + 1 + 1 + 1 + 1 ≤ n + 1 + 1 + 1 + 1 + 1 := by omega
@[simp, go_sem] theorem ltc_more5_4 (n : Nat) : n + 4 < n + 1 + 1 + 1 + 1 + 1 := by omega
@[simp, go_sem] theorem lec_more5_4 (n : Nat) : n + 4 ≤ n + 1 + 1 + 1 + 1 + 1 := by omega
@[simp, go_sem] theorem lt_more6 (n : Nat) : n < n + 1 + 1 + 1 + 1 + 1 + 1 := by omega
@[simp, go_sem] theorem le_more6 (n : Nat) : n ≤ n + 1 + 1 + 1 + 1 + 1 + 1 := by omega
@[simp, go_sem] theorem lt_more6_1 (n : Nat) : n + 1 < n + 1 + 1 + 1 + 1 + 1 + 1 := by omega
@[simp, go_sem] theorem le_more6_1 (n : Nat) : n + 1 ≤ n + 1 + 1 + 1 + 1 + 1 + 1 := by omega
@[simp, go_sem] theorem lt_more6_2 (n : Nat) : n + 1 + 1 < n + 1 + 1 + 1 + 1 + 1 + 1 := by omega
@[simp, go_sem] theorem le_more6_2 (n : Nat) : n + 1 + 1 ≤ n + 1 + 1 + 1 + 1 + 1 + 1 := by omega
@[simp, go_sem] theorem ltc_more6_2 (n : Nat) : n + 2 < n + 1 + 1 + 1 + 1 + 1 + 1 := by omega
@[simp, go_sem] theorem lec_more6_2 (n : Nat) : n + 2 ≤ n + 1 + 1 + 1 + 1 + 1 + 1 := by omega
@[simp, go_sem] theorem lt_more6_3 (n : Nat) : n + 1 + 1 + 1 < n + 1 + 1 + 1 + 1 + 1 + 1 := by omega
@[simp, go_sem] theorem le_more6_3 (n : Nat) : n + 1 + 1 + 1 ≤ n + 1 + 1 + 1 + 1 + 1 + 1 := by omega
@[simp, go_sem] theorem ltc_more6_3 (n : Nat) : n + 3 < n + 1 + 1 + 1 + 1 + 1 + 1 := by omega
@[simp, go_sem] theorem lec_more6_3 (n : Nat) : n + 3 ≤ n + 1 + 1 + 1 + 1 + 1 + 1 := by omega
@[simp, go_sem] theorem lt_more6_4 (n : Nat) : n + 1 + 1 + 1 + 1 < n + 1 + 1 + 1 + 1 + 1 + 1 := by omega
@[simp, go_sem] theorem le_more6_4 (n : Nat) : n + 1 + 1 + 1 + 1 ≤ n + 1 + 1 + 1 + 1 + 1 + 1 := by omega
@[simp, go_sem] theorem ltc_more6_4 (n : Nat) : n + 4 < n + 1 + 1 + 1 + 1 + 1 + 1 := by omega
@[simp, go_sem] theorem lec_more6_4 (n : Nat) : n + 4 ≤ n + 1 + 1 + 1 + 1 + 1 + 1 := by omega
@[simp, go_sem] theorem lt_more6_5 (n : Nat) : n + 1 + 1 + 1 + 1 + 1 < n + 1 + 1 + 1 + 1 + 1 + 1 := by omega
@[simp, go_sem] theorem le_more6_5 (n : Nat) : n + 1 + 1 + 1 + 1 + 1 ≤ n + 1 + 1 + 1 + 1 + 1 + 1 := by omega
@[simp, go_sem] theorem ltc_more6_5 (n : Nat) : n + 5 < n + 1 + 1 + 1 + 1 + 1 + 1 := by omega
@[simp, go_sem] theorem lec_more6_5 (n : Nat) : n + 5 ≤ n + 1 + 1 + 1 + 1 + 1 + 1 := by omega
theorem asize (w : World) (o : Obj) : (w.alloc o).heap.size = w.heap.size + 1 := by simp
theorem dsize (w : World) : w.drew.heap.size = w.heap.size := rfl
theorem with_fact {p q : Prop} (h : p) (k : p → q) : q := k h

theorem below_undrew {W w2 : World} (h : Below W.drew.heap.size W.drew w2) : Below W.heap.size W w2 := ⟨h.os, h.tape, h.output, h.size, h.block⟩

/-- Behind a call that keeps all that was there. -/
theorem below_call {B : Nat} {a w w1 : World} (h : Below B a w) (hb : Below w.heap.size w w1) (hB : B ≤ w.heap.size) : Below B a w1 := h.trans (hb.mono hB)

theorem Try.info32 : (Try.prog.info? 73).map (fun i => (i.zero, i.size, i.bytes)) = some (some (.int .u32 0), 1, 4) := by kernel_rfl
theorem Try.size32 : (Try.prog.info? 73).map (·.size) = some 1 := by kernel_rfl

/-- What owns a row of limbs reads as these limbs. -/
theorem own_sl {w : World} {base : Nat} {v : Value} {l : List Nat} (h : w.ownsRow base 73 1 v l.length (U l)) (hok : ok l) : Sl w v l := by
  rcases h.2 with ⟨rfl, h0⟩ | ⟨g, cap, cur, rfl, hbg, hg, hnc, hcm, hcs, htake⟩
  · exact ⟨none, 0, by rw [h0], hok, by omega, by unfold maxLen; omega, .inl ⟨h0, fun _ => rfl⟩⟩
  · refine ⟨_, cap, rfl, hok, hnc, hcm, .inr ⟨g, 0, rfl, (Array.getElem?_eq_some_iff.1 hg).1, fun i hi => ?_⟩⟩
    rw [Nat.zero_add, h.cellAt i (by omega)]
    simp [U, List.getD_eq_getElem?_getD, hi]

/-- The block g is a row of these limbs. -/
def RowAt (w : World) (g : Nat) (l : List Nat) : Prop := w.heap[g]? = some (.cells (U l).toArray 73 (0, 0))

theorem RowAt.heap {w : World} {g : Nat} {l : List Nat} (h : RowAt w g l) : w.heap[g]? = some (.cells (U l).toArray 73 (0, 0)) := h
theorem RowAt.lt {w : World} {g : Nat} {l : List Nat} (h : RowAt w g l) : g < w.heap.size := (Array.getElem?_eq_some_iff.1 h).1
theorem RowAt.cell {w : World} {g : Nat} {l : List Nat} (h : RowAt w g l) (i : Nat) (hi : i < l.length) : w.cell? ⟨g, i, none⟩ = some (.int .u32 ((l.getD i 0 : Nat) : Int)) := by
  rw [cell_of_row w g i (U l).toArray 73 (0, 0) h]
  simp [U, List.getD_eq_getElem?_getD, hi]
theorem RowAt.frozen {w : World} {g : Nat} {l : List Nat} (h : RowAt w g l) (i : Nat) : w.frozen? ⟨g, i, none⟩ = false := frozen_of_row w g i (U l).toArray 73 h
theorem RowAt.below {w w' : World} {g : Nat} {l : List Nat} (h : RowAt w g l) (hb : Below w.heap.size w w') : RowAt w' g l := (hb.block g h.lt).trans h
theorem RowAt.kept {w w' : World} {g : Nat} {l : List Nat} {row : Option Nat} (h : RowAt w g l) (hg : w.grownBy w' row) (hne : some g ≠ row) : RowAt w' g l := (hg.block g h.lt hne).trans h
theorem RowAt.set {w : World} {g : Nat} {l : List Nat} (h : RowAt w g l) (i x : Nat) : RowAt (w.setCell ⟨g, i, none⟩ (.int .u32 (x : Int))) g (l.set i x) := by
  have := heap_setCell_same w g i (U l).toArray 73 (.int .u32 (x : Int)) h
  unfold RowAt
  rw [this]
  simp [U, List.map_set]
theorem RowAt.slAt {w : World} {g : Nat} {l : List Nat} (h : RowAt w g l) (hok : ok l) (o n cap : Nat) (hn : o + n ≤ l.length) (hc : n ≤ cap) (hm : cap ≤ maxLen) : SlAt w (some ⟨g, o, none⟩) cap ((l.drop o).take n) := by
  refine ⟨ok_take (ok_drop hok _) _, by simp; omega, hm, .inr ⟨g, o, rfl, h.lt, fun i hi => ?_⟩⟩
  simp at hi
  rw [h.cell (o + i) (by omega)]
  have h1 : o + i < l.length := by omega
  simp [List.getD_eq_getElem?_getD, hi, h1]
theorem RowAt.whole {w : World} {g : Nat} {l : List Nat} (h : RowAt w g l) (hok : ok l) (hm : l.length ≤ 1000000000) : SlAt w (some ⟨g, 0, none⟩) l.length l := by
  have := h.slAt hok 0 l.length l.length (by omega) (Nat.le_refl _) (by unfold maxLen; omega)
  simpa using this
theorem from_row (lo g o : Nat) (h : lo ≤ g) : From lo (some ⟨g, o, none⟩) := by
  intro ad e; simp at e; subst e; exact h
theorem rowAt_of_own {w : World} {base g n : Nat} {l : List Nat} (h : w.ownsRow base 73 1 (.slice (some ⟨g, 0, none⟩) n n) n (U l)) : RowAt w g l ∧ l.length = n := by
  have hl := h.1
  rcases h.2 with ⟨h', _⟩ | ⟨g', cap', cur, h', _, hg, _, _, hcs, htake⟩
  · simp at h'
  · simp only [Value.slice.injEq, Option.some.injEq, Addr.mk.injEq, and_true, true_and] at h'
    obtain ⟨rfl, rfl⟩ := h'
    have e : cur = (U l).toArray := by
      rw [← htake, List.take_of_length_le (by rw [Array.length_toList]; omega)]
    refine ⟨?_, by simpa [U] using hl⟩
    unfold RowAt
    rw [hg, e]
theorem grow_refl (w : World) (row : Option Nat) : w.grownBy w row := ⟨rfl, rfl, rfl, Nat.le_refl _, fun _ _ _ => rfl⟩
theorem grow_set {w wr : World} {g : Nat} (h : w.grownBy wr (some g)) (i : Nat) (u : Value) : w.grownBy (wr.setCell ⟨g, i, none⟩ u) (some g) :=
  ⟨h.os, h.tape, h.output, by simpa [World.setCell] using h.size, fun k hk hne => (Below.heap_setCell wr ⟨g, i, none⟩ u k (by intro e; apply hne; simp [e])).trans (h.block k hk hne)⟩
theorem grow_drewN {w wr : World} {row : Option Nat} (h : w.grownBy wr row) (n : Nat) : w.grownBy (wr.drewN n) row := ⟨h.os, h.tape, h.output, h.size, h.block⟩
theorem grow_drew {w wr : World} {row : Option Nat} (h : w.grownBy wr row) : w.grownBy wr.drew row := ⟨h.os, h.tape, h.output, h.size, h.block⟩
theorem grow_alloc {w wr : World} {row : Option Nat} (h : w.grownBy wr row) (o : Obj) : w.grownBy (wr.alloc o) row :=
  ⟨h.os, h.tape, h.output, by simp; have := h.size; omega, fun k hk hne => (Below.heap_alloc wr o k (Nat.lt_of_lt_of_le hk h.size)).trans (h.block k hk hne)⟩
theorem grow_trans {w w1 w2 : World} {row : Option Nat} (h : w.grownBy w1 row) (k : w1.grownBy w2 row) : w.grownBy w2 row :=
  ⟨k.os.trans h.os, k.tape.trans h.tape, k.output.trans h.output, Nat.le_trans h.size k.size, fun i hi hne => (k.block i (Nat.lt_of_lt_of_le hi h.size) hne).trans (h.block i hi hne)⟩
theorem grow_below {w w1 w2 : World} {row : Option Nat} (h : w.grownBy w1 row) (k : Below w1.heap.size w1 w2) : w.grownBy w2 row :=
  ⟨k.os.trans h.os, k.tape.trans h.tape, k.output.trans h.output, Nat.le_trans h.size k.size, fun i hi hne => (k.block i (Nat.lt_of_lt_of_le hi h.size)).trans (h.block i hi hne)⟩
theorem slAt_grow {w w' : World} {g : Nat} {ao : Option Addr} {cap : Nat} {l : List Nat} (h : SlAt w ao cap l) (hg : w.grownBy w' (some g)) (hne : ∀ ad, ao = some ad → ad.block ≠ g) : SlAt w' ao cap l := by
  obtain ⟨h1, h2, h3, h4⟩ := h
  refine ⟨h1, h2, h3, ?_⟩
  rcases h4 with h4 | ⟨b, off, e, hlt, hc⟩
  · exact .inl h4
  · have hb : b ≠ g := hne _ e
    exact .inr ⟨b, off, e, Nat.lt_of_lt_of_le hlt hg.size, fun i hi => (World.cell?_of_block (w := w) (a := ⟨b, off + i, none⟩) (hg.block b hlt (by simpa using hb))).trans (hc i hi)⟩

/-- The block b is a struct of a number: its sign and its limbs. -/
def Box (w : World) (b : Nat) (x y : Value) : Prop := w.heap[b]? = some (.cells #[x, y] 27 (0, 0))
theorem Box.lt {w : World} {b : Nat} {x y : Value} (h : Box w b x y) : b < w.heap.size := (Array.getElem?_eq_some_iff.1 h).1
theorem Box.c0 {w : World} {b : Nat} {x y : Value} (h : Box w b x y) : w.cell? ⟨b, 0, none⟩ = some x := by
  rw [cell_of_row w b 0 #[x, y] 27 (0, 0) h]; rfl
theorem Box.c1 {w : World} {b : Nat} {x y : Value} (h : Box w b x y) : w.cell? ⟨b, 1, none⟩ = some y := by
  rw [cell_of_row w b 1 #[x, y] 27 (0, 0) h]; rfl
theorem Box.f {w : World} {b : Nat} {x y : Value} (h : Box w b x y) (i : Nat) : w.frozen? ⟨b, i, none⟩ = false := frozen_of_row w b i #[x, y] 27 h
theorem Box.new (w : World) (x y : Value) (b : Nat) (hb : b = w.heap.size) : Box (w.alloc (.cells #[x, y] 27)) b x y := by subst hb; exact heap_alloc_new w _
theorem Box.alloc {w : World} {b : Nat} {x y : Value} (h : Box w b x y) (o : Obj) : Box (w.alloc o) b x y := (Below.heap_alloc w o b h.lt).trans h
theorem Box.below {w w' : World} {B b : Nat} {x y : Value} (h : Box w b x y) (hb : Below B w w') (hB : b < B) : Box w' b x y := (hb.block b hB).trans h
theorem Box.keep {w w' : World} {b : Nat} {x y : Value} (h : Box w b x y) (hb : Below w.heap.size w w') : Box w' b x y := (hb.block b h.lt).trans h
theorem Box.drew {w : World} {b : Nat} {x y : Value} (h : Box w b x y) : Box w.drew b x y := h
theorem Box.set0 {w : World} {b : Nat} {x y : Value} (h : Box w b x y) (u : Value) : Box (w.setCell ⟨b, 0, none⟩ u) b u y := by
  unfold Box; rw [heap_setCell_same w b 0 #[x, y] 27 u h]; rfl
theorem Box.set1 {w : World} {b : Nat} {x y : Value} (h : Box w b x y) (u : Value) : Box (w.setCell ⟨b, 1, none⟩ u) b x u := by
  unfold Box; rw [heap_setCell_same w b 1 #[x, y] 27 u h]; rfl
theorem Box.other {w : World} {b : Nat} {x y : Value} (h : Box w b x y) {a : Addr} (ha : b ≠ a.block) (u : Value) : Box (w.setCell a u) b x y := (heap_setCell_other w a b u ha).trans h
theorem Box.grow {w w' : World} {b g : Nat} {x y : Value} (h : Box w b x y) (hg : w.grownBy w' (some g)) (hne : b ≠ g) : Box w' b x y := (hg.block b h.lt (by simpa using hne)).trans h

theorem u_length (l : List Nat) : (U l).length = l.length := by simp [U]
theorem u_one (l : List Nat) : ∀ v ∈ U l, v.oneCell' = true := by
  intro v hv
  obtain ⟨_, _, rfl⟩ := List.mem_map.1 hv
  rfl
/-- A slice's cells, as a law on copies asks for them. -/
theorem SlAt.src {w : World} {b off : Nat} {l : List Nat} (hc : ∀ i, i < l.length → w.cell? ⟨b, off + i, none⟩ = some (.int .u32 ((l.getD i 0 : Nat) : Int))) :
    ∀ j v, (U l)[j]? = some v → w.cell? ((⟨b, off, none⟩ : Addr).add j) = some v := by
  intro j v hv
  have hj : j < l.length := by
    have := (List.getElem?_eq_some_iff.1 hv).1
    simpa [U] using this
  have e : (⟨b, off, none⟩ : Addr).add j = ⟨b, off + j, none⟩ := by unfold Addr.add; split <;> simp_all
  rw [e, hc j hj]
  simp [U, hj] at hv
  rw [← hv, List.getD_eq_getElem?_getD]
  simp [hj]

/-- The walk stands at a call of the built-in copy. -/
theorem at_copy {P : Program} {ops : Array Oper} {Q : Exit → Act → World → Prop} {rest : List Oper} {a : Act} {w : World} {dst : Option Tmp} {d s : Operand} {tys : Array TypeId} {ty : TypeId} {pos : String} {after : Array Edge} {guard : Option (Nat × Bool)}
    (h : wpList P ops Q ({ dst := dst, op := .call { callee := .builtin .copy, args := #[d, s], argTypes := tys }, type := ty, pos := pos, after := after, guard := guard } :: rest) a w) :
    wpList P ops Q ({ dst := dst, op := .call { callee := .builtin .copy, args := #[d, s], argTypes := tys }, type := ty, pos := pos, after := after, guard := guard } :: rest) a w := h

theorem made32 (n : Nat) : (madeCells (Value.int .u32 0).cells (n * 1)).toList = U (List.replicate n 0) := by
  have : (Value.int .u32 0).cells = #[.int .u32 0] := rfl
  rw [this, Nat.mul_one, toList_madeCells_one]
  simp [U]

end Go.Proofs.Ytalblhcfkfockaa
