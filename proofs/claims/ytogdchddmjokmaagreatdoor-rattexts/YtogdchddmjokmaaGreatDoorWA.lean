/-
  Plain mathematics of limbs: a list of limbs below 2^32 and the number that it stands for.
  What it means, in memory, that a value is a slice of limbs, and that it is a number.
  Walks: small functions of num.
  Walks: numbers of words; what counts as a number.
  Walks: small functions of the document's answer.
  Walks: what is the same; what is great.
  Walks: a quotient by one limb.
-/
import Derived.Test.YtogdchddmjokmaaGreatDoorRows
import Derived.WalkKit
import Derived.WalkSpells
import Derived.WalkLawsBesides
import Derived.Laws.CopyOwn
import Derived.Deep.RegionHeld3
import Derived.Deep.QuietTactic
import Derived.BigQuiet
import Derived.Deep.DeepMust
import Derived.WalkSmall
import Derived.Deep.LoopGhost
import Derived.Deep.DeepCutAuto
import Derived.Deep.RegionWith

namespace Go.Proofs.YtogdchddmjokmaaGreatDoor.Lm

def val : List Nat → Nat
  | [] => 0
  | x :: r => x + 4294967296 * val r

def pw : Nat → Nat
  | 0 => 1
  | k + 1 => 4294967296 * pw k

def ok (l : List Nat) : Prop := ∀ x ∈ l, x < 4294967296

def canon (l : List Nat) : Prop := l.getLast? ≠ some 0

theorem ok_nil : ok [] := by intro x h; simp at h
theorem ok_cons {x : Nat} {r : List Nat} : ok (x :: r) ↔ x < 4294967296 ∧ ok r := by
  unfold ok; simp
theorem ok_append {a b : List Nat} : ok (a ++ b) ↔ ok a ∧ ok b := by
  unfold ok
  constructor
  · intro h; exact ⟨fun x hx => h x (by simp [hx]), fun x hx => h x (by simp [hx])⟩
  · intro h x hx
    rcases List.mem_append.1 hx with h1 | h1
    · exact h.1 x h1
    · exact h.2 x h1
theorem ok_take {l : List Nat} (h : ok l) (k : Nat) : ok (l.take k) := fun x hx => h x (List.mem_of_mem_take hx)
theorem ok_drop {l : List Nat} (h : ok l) (k : Nat) : ok (l.drop k) := fun x hx => h x (List.mem_of_mem_drop hx)
theorem ok_getD {l : List Nat} (h : ok l) (k : Nat) : l.getD k 0 < 4294967296 := by
  rw [List.getD_eq_getElem?_getD]
  cases hk : l[k]? with
  | none => simp
  | some x => simp; exact h x (List.mem_of_getElem? hk)
theorem ok_set {l : List Nat} (h : ok l) (k x : Nat) (hx : x < 4294967296) : ok (l.set k x) := by
  intro y hy
  rcases List.mem_or_eq_of_mem_set hy with h1 | h1
  · exact h y h1
  · subst h1; exact hx
theorem ok_replicate (n : Nat) : ok (List.replicate n 0) := by
  intro x hx
  have := List.eq_of_mem_replicate hx
  omega

theorem pw_pos (k : Nat) : 0 < pw k := by
  induction k with
  | zero => simp [pw]
  | succ k ih => simp only [pw]; omega
theorem pw_add (a b : Nat) : pw (a + b) = pw a * pw b := by
  induction a with
  | zero => simp [pw]
  | succ a ih => rw [Nat.succ_add]; simp only [pw]; rw [ih, Nat.mul_assoc]
theorem pw_mono {a b : Nat} (h : a ≤ b) : pw a ≤ pw b := by
  obtain ⟨c, rfl⟩ := Nat.exists_eq_add_of_le h
  rw [pw_add]
  exact Nat.le_mul_of_pos_right _ (pw_pos _)

theorem val_append (a b : List Nat) : val (a ++ b) = val a + pw a.length * val b := by
  induction a with
  | nil => simp [val, pw]
  | cons x r ih =>
    simp only [List.cons_append, val, List.length_cons, pw]
    rw [ih, Nat.mul_add, ← Nat.mul_assoc]
    omega
theorem val_lt {l : List Nat} (h : ok l) : val l < pw l.length := by
  induction l with
  | nil => simp [val, pw]
  | cons x r ih =>
    have h1 := ok_cons.1 h
    have := ih h1.2
    simp only [val, List.length_cons, pw]
    omega
theorem val_take_succ (l : List Nat) (k : Nat) (h : k < l.length) : val (l.take (k + 1)) = val (l.take k) + pw k * l.getD k 0 := by
  rw [List.take_succ_eq_append_getElem h, val_append]
  have : (l.take k).length = k := by simp; omega
  rw [this]
  simp [val, List.getD_eq_getElem?_getD, h]
theorem val_replicate (n : Nat) : val (List.replicate n 0) = 0 := by
  induction n with
  | zero => rfl
  | succ n ih => rw [List.replicate_succ]; simp only [val]; rw [ih]
theorem val_take_zero (l : List Nat) (k : Nat) (h : ∀ j, k ≤ j → l.getD j 0 = 0) : val (l.take k) = val l := by
  have h1 : l = l.take k ++ l.drop k := (List.take_append_drop k l).symm
  have h2 : l.drop k = List.replicate (l.drop k).length 0 := by
    apply List.ext_getElem?
    intro j
    by_cases hj : j < (l.drop k).length
    · rw [List.getElem?_replicate, if_pos hj, List.getElem?_drop]
      have hk := h (k + j) (by omega)
      rw [List.getD_eq_getElem?_getD] at hk
      simp only [List.length_drop] at hj
      rw [List.getElem?_eq_getElem (by omega)] at hk ⊢
      simpa using hk
    · rw [List.getElem?_eq_none (by omega), List.getElem?_replicate, if_neg hj]
  conv => rhs; rw [h1, val_append, h2, val_replicate]
  simp

theorem canon_nil : canon [] := by simp [canon]
theorem canon_pos {l : List Nat} (hc : canon l) (hne : l ≠ []) : pw (l.length - 1) ≤ val l := by
  have e := List.dropLast_concat_getLast hne
  have hl : l.getLast hne ≠ 0 := by
    intro h0
    apply hc
    rw [List.getLast?_eq_some_getLast hne, h0]
  have hv : val l = val l.dropLast + pw l.dropLast.length * l.getLast hne := by
    conv => lhs; rw [← e]
    rw [val_append]; simp [val]
  rw [hv, List.length_dropLast]
  have : pw (l.length - 1) * 1 ≤ pw (l.length - 1) * l.getLast hne := Nat.mul_le_mul_left _ (by omega)
  omega
theorem val_len_lt {a b : List Nat} (ha : ok a) (hb : canon b) (h : a.length < b.length) : val a < val b := by
  have h1 := val_lt ha
  have h2 := canon_pos hb (by intro h0; subst h0; simp at h)
  have h3 := pw_mono (show a.length ≤ b.length - 1 by omega)
  omega
theorem val_inj_len {a b : List Nat} (ha : ok a) (hb : ok b) (hl : a.length = b.length) (hv : val a = val b) : a = b := by
  induction a generalizing b with
  | nil => cases b with
    | nil => rfl
    | cons y s => simp at hl
  | cons x r ih => cases b with
    | nil => simp at hl
    | cons y s =>
      have h1 := ok_cons.1 ha
      have h2 := ok_cons.1 hb
      simp only [val] at hv
      have h3 : x = y := by omega
      have h4 : val r = val s := by omega
      rw [h3, ih h1.2 h2.2 (by simpa using hl) h4]
theorem canon_inj {a b : List Nat} (ha : ok a) (hb : ok b) (ca : canon a) (cb : canon b) (hv : val a = val b) : a = b := by
  by_cases h1 : a.length < b.length
  · have := val_len_lt ha cb h1; omega
  · by_cases h2 : b.length < a.length
    · have := val_len_lt hb ca h2; omega
    · exact val_inj_len ha hb (by omega) hv
theorem val_eq_zero {l : List Nat} (hc : canon l) (hv : val l = 0) : l = [] := by
  by_cases h : l = []
  · exact h
  · have := canon_pos hc h
    have := pw_pos (l.length - 1)
    omega
theorem canon_take {l : List Nat} {k : Nat} (hk : k ≤ l.length) (h : k = 0 ∨ l.getD (k - 1) 0 ≠ 0) : canon (l.take k) := by
  unfold canon
  rcases h with h | h
  · subst h; simp
  · by_cases h0 : k = 0
    · subst h0; simp
    · rw [List.getLast?_eq_getElem?]
      simp only [List.length_take, List.getElem?_take]
      rw [show min k l.length - 1 = k - 1 by omega, if_pos (by omega)]
      intro h1
      apply h
      rw [List.getD_eq_getElem?_getD, h1]; rfl
theorem canon_last {l : List Nat} (hc : canon l) (hn : 0 < l.length) : l.getD (l.length - 1) 0 ≠ 0 := by
  intro h
  apply hc
  rw [List.getLast?_eq_getElem?]
  rw [List.getD_eq_getElem?_getD, List.getElem?_eq_getElem (by omega)] at h
  rw [List.getElem?_eq_getElem (by omega)]
  simpa using h
theorem canon_of_last {l : List Nat} (h : l.length = 0 ∨ l.getD (l.length - 1) 0 ≠ 0) : canon l := by
  have := canon_take (l := l) (k := l.length) (Nat.le_refl _) h
  simpa using this

theorem set_drop {l : List Nat} {i x : Nat} (h : i < l.length) : (l.set i x).drop i = x :: l.drop (i + 1) := by
  rw [List.drop_eq_getElem_cons (by simpa using h), List.getElem_set_self]
  congr 1
  apply List.ext_getElem?
  intro j
  simp only [List.getElem?_drop, List.getElem?_set]
  rw [if_neg (by omega)]
theorem set_take {l : List Nat} {i k x : Nat} (h : k ≤ i) : (l.set i x).take k = l.take k := by
  apply List.ext_getElem?
  intro j
  simp only [List.getElem?_take, List.getElem?_set]
  by_cases hj : j < k
  · rw [if_pos hj, if_pos hj, if_neg (by omega)]
  · rw [if_neg hj, if_neg hj]
theorem drop_val (l : List Nat) (k : Nat) (hk : k < l.length) : val (l.drop k) = l.getD k 0 + 4294967296 * val (l.drop (k + 1)) := by
  rw [List.drop_eq_getElem_cons hk]
  simp [val, List.getD_eq_getElem?_getD, hk]
theorem take_getD {a b : List Nat} {k j : Nat} (h : a.take k = b.take k) (hj : j < k) : a.getD j 0 = b.getD j 0 := by
  have : (a.take k).getD j 0 = (b.take k).getD j 0 := by rw [h]
  simpa [List.getD_eq_getElem?_getD, List.getElem?_take, hj] using this
theorem getD_append {a b : List Nat} {j : Nat} (hj : j < a.length) : (a ++ b).getD j 0 = a.getD j 0 := by
  simp [List.getD_eq_getElem?_getD, List.getElem?_append, hj]

/-- The number of a sign and a size. -/
def sgn (neg : Bool) (n : Nat) : Int := if neg then -(n : Int) else n
/-- Whether a sign and limbs are the one form of a number. -/
def mayB (neg : Bool) (l : List Nat) : Bool := if l.length = 0 then !neg else decide (l.getD (l.length - 1) 0 ≠ 0)
/-- What a sign and limbs count as. -/
def mean (neg : Bool) (l : List Nat) : Int := if mayB neg l then sgn neg (val l) else 0

theorem may_canon {neg : Bool} {l : List Nat} (h : mayB neg l = true) : canon l := by
  unfold mayB at h
  by_cases h0 : l.length = 0
  · exact canon_of_last (.inl h0)
  · rw [if_neg h0] at h
    exact canon_of_last (.inr (by simpa using h))

end Go.Proofs.YtogdchddmjokmaaGreatDoor.Lm

namespace Go.Proofs.YtogdchddmjokmaaGreatDoor
open Go.RowKit Lm
set_option linter.unusedSimpArgs false
set_option linter.unusedVariables false
set_option maxRecDepth 100000

theorem hid {p : Prop} (h : p) : Hid p := h

/-- The limbs as cells. -/
def U (l : List Nat) : List Value := l.map (fun (x : Nat) => Value.int .u32 (x : Int))

/-- The address, length and room of a slice that reads as these limbs. -/
def SlAt (w : World) (ao : Option Addr) (cap : Nat) (l : List Nat) : Prop :=
  ok l ∧ l.length ≤ cap ∧ cap ≤ maxLen ∧ ((l.length = 0 ∧ (ao = none → cap = 0)) ∨ ∃ b off, ao = some ⟨b, off, none⟩ ∧ b < w.heap.size ∧ ∀ i, i < l.length → w.cell? ⟨b, off + i, none⟩ = some (.int .u32 ((l.getD i 0 : Nat) : Int)))

/-- The value v is a slice that reads as these limbs. -/
def Sl (w : World) (v : Value) (l : List Nat) : Prop := ∃ ao cap, v = .slice ao l.length cap ∧ SlAt w ao cap l

/-- What is handed in as a number: a sign and limbs, at most n of them, that count as z. -/
def Arg (w : World) (v : Value) (n : Nat) (z : Int) : Prop := ∃ neg sv l, v = .agg #[.bool neg, sv] ∧ Sl w sv l ∧ l.length ≤ n ∧ z = mean neg l

/-- From the block lo on. -/
def From (lo : Nat) (ao : Option Addr) : Prop := ∀ ad, ao = some ad → lo ≤ ad.block

/-- What is told as a number, in memory from the block lo on: it may be. -/
def Is (w : World) (lo : Nat) (v : Value) (n : Nat) (z : Int) : Prop := ∃ neg ao cap l, v = .agg #[.bool neg, .slice ao l.length cap] ∧ SlAt w ao cap l ∧ From lo ao ∧ l.length ≤ n ∧ mayB neg l = true ∧ z = sgn neg (val l)

theorem Is.arg {w : World} {lo : Nat} {v : Value} {n : Nat} {z : Int} (h : Is w lo v n z) : Arg w v n z := by
  obtain ⟨neg, ao, cap, l, hv, hs, hf, hl, hm, hz⟩ := h
  exact ⟨neg, _, l, hv, ⟨ao, cap, rfl, hs⟩, hl, by rw [hz]; unfold mean; rw [hm]; rfl⟩

theorem SlAt.below {w w' : World} {ao : Option Addr} {cap : Nat} {l : List Nat} (h : SlAt w ao cap l) (hb : Below w.heap.size w w') : SlAt w' ao cap l := by
  obtain ⟨h1, h2, h3, h4⟩ := h
  refine ⟨h1, h2, h3, ?_⟩
  rcases h4 with h4 | ⟨b, off, e, hlt, hc⟩
  · exact .inl h4
  · exact .inr ⟨b, off, e, Nat.lt_of_lt_of_le hlt hb.size, fun i hi => (hb.cell (p := ⟨b, off + i, none⟩) hlt).trans (hc i hi)⟩
theorem Sl.below {w w' : World} {v : Value} {l : List Nat} (h : Sl w v l) (hb : Below w.heap.size w w') : Sl w' v l := by
  obtain ⟨ao, cap, e, h1⟩ := h
  exact ⟨ao, cap, e, h1.below hb⟩
theorem Arg.below {w w' : World} {v : Value} {n : Nat} {z : Int} (h : Arg w v n z) (hb : Below w.heap.size w w') : Arg w' v n z := by
  obtain ⟨neg, sv, l, hv, hs, hr⟩ := h
  exact ⟨neg, sv, l, hv, hs.below hb, hr⟩
theorem Is.below {w w' : World} {lo : Nat} {v : Value} {n : Nat} {z : Int} (h : Is w lo v n z) (hb : Below w.heap.size w w') : Is w' lo v n z := by
  obtain ⟨neg, ao, cap, l, hv, hs, hr⟩ := h
  exact ⟨neg, ao, cap, l, hv, hs.below hb, hr⟩
theorem SlAt.setCell {w : World} {lo : Nat} {ao : Option Addr} {cap : Nat} {l : List Nat} (h : SlAt w ao cap l) (hf : From lo ao) {p : Addr} (hp : p.block < lo) (u : Value) : SlAt (w.setCell p u) ao cap l := by
  obtain ⟨h1, h2, h3, h4⟩ := h
  refine ⟨h1, h2, h3, ?_⟩
  rcases h4 with h4 | ⟨b, off, e, hlt, hc⟩
  · exact .inl h4
  · have hb : lo ≤ b := hf _ e
    refine .inr ⟨b, off, e, by simpa [World.setCell] using hlt, fun i hi => ?_⟩
    rw [World.cell?_of_block (w := w) (Below.heap_setCell w p u b (by omega))]
    exact hc i hi
theorem Is.setCell {w : World} {lo : Nat} {v : Value} {n : Nat} {z : Int} (h : Is w lo v n z) {p : Addr} (hp : p.block < lo) (u : Value) : Is (w.setCell p u) lo v n z := by
  obtain ⟨neg, ao, cap, l, hv, hs, hf, hr⟩ := h
  exact ⟨neg, ao, cap, l, hv, hs.setCell hf hp u, hf, hr⟩
theorem Is.mono {w : World} {lo lo' : Nat} {v : Value} {n n' : Nat} {z : Int} (h : Is w lo v n z) (hlo : lo' ≤ lo) (hn : n ≤ n') : Is w lo' v n' z := by
  obtain ⟨neg, ao, cap, l, hv, hs, hf, hl, hr⟩ := h
  exact ⟨neg, ao, cap, l, hv, hs, fun ad e => Nat.le_trans hlo (hf ad e), Nat.le_trans hl hn, hr⟩
theorem SlAt.alloc {w : World} {ao : Option Addr} {cap : Nat} {l : List Nat} (h : SlAt w ao cap l) (o : Obj) : SlAt (w.alloc o) ao cap l := h.below ((Below.refl _ _).alloc (Nat.le_refl _) o)
theorem Is.alloc {w : World} {lo : Nat} {v : Value} {n : Nat} {z : Int} (h : Is w lo v n z) (o : Obj) : Is (w.alloc o) lo v n z := h.below ((Below.refl _ _).alloc (Nat.le_refl _) o)
theorem SlAt.drew {w : World} {ao : Option Addr} {cap : Nat} {l : List Nat} (h : SlAt w ao cap l) : SlAt w.drew ao cap l := h
theorem Is.drew {w : World} {lo : Nat} {v : Value} {n : Nat} {z : Int} (h : Is w lo v n z) : Is w.drew lo v n z := h

/-- Behind a call all old cells and all old marks read as they did. -/
theorem bcell {W w1 : World} (hb : Below W.heap.size W w1) : (∀ b o, b < W.heap.size → w1.cell? ⟨b, o, none⟩ = W.cell? ⟨b, o, none⟩) ∧ (∀ b o, b < W.heap.size → w1.frozen? ⟨b, o, none⟩ = W.frozen? ⟨b, o, none⟩) :=
  ⟨fun b o h => hb.cell (p := ⟨b, o, none⟩) h, fun b o h => hb.frozen (p := ⟨b, o, none⟩) h⟩

@[simp, go_sem] theorem lt_more2 (n : Nat) : n < n + 1 + 1 := by omega
@[simp, go_sem] theorem le_more2 (n : Nat) : n ≤ n + 1 + 1 := by omega
@[simp, go_sem] theorem lt_more2_1 (n : Nat) : n + 1 < n + 1 + 1 := by omega
@[simp, go_sem] theorem le_more2_1 (n : Nat) : n + 1 ≤ n + 1 + 1 := by omega
@[simp, go_sem] theorem lt_more3 (n : Nat) : n < n + 1 + 1 + 1 := by omega
@[simp, go_sem] theorem le_more3 (n : Nat) : n ≤ n + 1 + 1 + 1 := by omega
@[simp, go_sem] theorem lt_more3_1 (n : Nat) : n + 1 < n + 1 + 1 + 1 := by omega
@[simp, go_sem] theorem le_more3_1 (n : Nat) : n + 1 ≤ n + 1 + 1 + 1 := by omega
@[simp, go_sem] theorem lt_more3_2 (n : Nat) : n + 1 + 1 < n + 1 + 1 + 1 := by omega
@[simp, go_sem] theorem le_more3_2 (n : Nat) : n + 1 + 1 ≤ n + 1 + 1 + 1 := by omega
@[simp, go_sem] theorem ltc_more3_2 (n : Nat) : n + 2 < n + 1 + 1 + 1 := by omega
@[simp, go_sem] theorem lec_more3_2 (n : Nat) : n + 2 ≤ n + 1 + 1 + 1 := by omega
@[simp, go_sem] theorem lt_more4 (n : Nat) : n < n + 1 + 1 + 1 + 1 := by omega
@[simp, go_sem] theorem le_more4 (n : Nat) : n ≤ n + 1 + 1 + 1 + 1 := by omega
@[simp, go_sem] theorem lt_more4_1 (n : Nat) : n + 1 < n + 1 + 1 + 1 + 1 := by omega
@[simp, go_sem] theorem le_more4_1 (n : Nat) : n + 1 ≤ n + 1 + 1 + 1 + 1 := by omega
@[simp, go_sem] theorem lt_more4_2 (n : Nat) : n + 1 + 1 < n + 1 + 1 + 1 + 1 := by omega
@[simp, go_sem] theorem le_more4_2 (n : Nat) : n + 1 + 1 ≤ n + 1 + 1 + 1 + 1 := by omega
@[simp, go_sem] theorem ltc_more4_2 (n : Nat) : n + 2 < n + 1 + 1 + 1 + 1 := by omega
@[simp, go_sem] theorem lec_more4_2 (n : Nat) : n + 2 ≤ n + 1 + 1 + 1 + 1 := by omega
@[simp, go_sem] theorem lt_more4_3 (n : Nat) : n + 1 + 1 + 1 < n + 1 + 1 + 1 + 1 := by omega
@[simp, go_sem] theorem le_more4_3 (n : Nat) : n + 1 + 1 + 1 ≤ n + 1 + 1 + 1 + 1 := by omega
@[simp, go_sem] theorem ltc_more4_3 (n : Nat) : n + 3 < n + 1 + 1 + 1 + 1 := by omega
@[simp, go_sem] theorem lec_more4_3 (n : Nat) : n + 3 ≤ n + 1 + 1 + 1 + 1 := by omega
@[simp, go_sem] theorem lt_more5 (n : Nat) : n < n + 1 + 1 + 1 + 1 + 1 := by omega
@[simp, go_sem] theorem le_more5 (n : Nat) : n ≤ n + 1 + 1 + 1 + 1 + 1 := by omega
@[simp, go_sem] theorem lt_more5_1 (n : Nat) : n + 1 < n + 1 + 1 + 1 + 1 + 1 := by omega
@[simp, go_sem] theorem le_more5_1 (n : Nat) : n + 1 ≤ n + 1 + 1 + 1 + 1 + 1 := by omega
@[simp, go_sem] theorem lt_more5_2 (n : Nat) : n + 1 + 1 < n + 1 + 1 + 1 + 1 + 1 := by omega
@[simp, go_sem] theorem le_more5_2 (n : Nat) : n + 1 + 1 ≤ n + 1 + 1 + 1 + 1 + 1 := by omega
@[simp, go_sem] theorem ltc_more5_2 (n : Nat) : n + 2 < n + 1 + 1 + 1 + 1 + 1 := by omega
@[simp, go_sem] theorem lec_more5_2 (n : Nat) : n + 2 ≤ n + 1 + 1 + 1 + 1 + 1 := by omega
@[simp, go_sem] theorem lt_more5_3 (n : Nat) : n + 1 + 1 + 1 < n + 1 + 1 + 1 + 1 + 1 := by omega
@[simp, go_sem] theorem le_more5_3 (n : Nat) : n + 1 + 1 + 1 ≤ n + 1 + 1 + 1 + 1 + 1 := by omega
@[simp, go_sem] theorem ltc_more5_3 (n : Nat) : n + 3 < n + 1 + 1 + 1 + 1 + 1 := by omega
@[simp, go_sem] theorem lec_more5_3 (n : Nat) : n + 3 ≤ n + 1 + 1 + 1 + 1 + 1 := by omega
@[simp, go_sem] theorem lt_more5_4 (n : Nat) : n + 1 + 1 + 1 + 1 < n + 1 + 1 + 1 + 1 + 1 := by omega
@[simp, go_sem] theorem le_more5_4 (n : Nat) : n + 1 + 1 + 1 + 1 ≤ n + 1 + 1 + 1 + 1 + 1 := by omega
@[simp, go_sem] theorem ltc_more5_4 (n : Nat) : n + 4 < n + 1 + 1 + 1 + 1 + 1 := by omega
@[simp, go_sem] theorem lec_more5_4 (n : Nat) : n + 4 ≤ n + 1 + 1 + 1 + 1 + 1 := by omega
@[simp, go_sem] theorem lt_more6 (n : Nat) : n < n + 1 + 1 + 1 + 1 + 1 + 1 := by omega
@[simp, go_sem] theorem le_more6 (n : Nat) : n ≤ n + 1 + 1 + 1 + 1 + 1 + 1 := by omega
@[simp, go_sem] theorem lt_more6_1 (n : Nat) : n + 1 < n + 1 + 1 + 1 + 1 + 1 + 1 := by omega
@[simp, go_sem] theorem le_more6_1 (n : Nat) : n + 1 ≤ n + 1 + 1 + 1 + 1 + 1 + 1 := by omega
@[simp, go_sem] theorem lt_more6_2 (n : Nat) : n + 1 + 1 < n + 1 + 1 + 1 + 1 + 1 + 1 := by omega
@[simp, go_sem] theorem le_more6_2 (n : Nat) : n + 1 + 1 ≤ n + 1 + 1 + 1 + 1 + 1 + 1 := by omega
@[simp, go_sem] theorem ltc_more6_2 (n : Nat) : n + 2 < n + 1 + 1 + 1 + 1 + 1 + 1 := by omega
@[simp, go_sem] theorem lec_more6_2 (n : Nat) : n + 2 ≤ n + 1 + 1 + 1 + 1 + 1 + 1 := by omega
@[simp, go_sem] theorem lt_more6_3 (n : Nat) : n + 1 + 1 + 1 < n + 1 + 1 + 1 + 1 + 1 + 1 := by omega
@[simp, go_sem] theorem le_more6_3 (n : Nat) : n + 1 + 1 + 1 ≤ n + 1 + 1 + 1 + 1 + 1 + 1 := by omega
@[simp, go_sem] theorem ltc_more6_3 (n : Nat) : n + 3 < n + 1 + 1 + 1 + 1 + 1 + 1 := by omega
@[simp, go_sem] theorem lec_more6_3 (n : Nat) : n + 3 ≤ n + 1 + 1 + 1 + 1 + 1 + 1 := by omega
@[simp, go_sem] theorem lt_more6_4 (n : Nat) : n + 1 + 1 + 1 + 1 < n + 1 + 1 + 1 + 1 + 1 + 1 := by omega
@[simp, go_sem] theorem le_more6_4 (n : Nat) : n + 1 + 1 + 1 + 1 ≤ n + 1 + 1 + 1 + 1 + 1 + 1 := by omega
@[simp, go_sem] theorem ltc_more6_4 (n : Nat) : n + 4 < n + 1 + 1 + 1 + 1 + 1 + 1 := by omega
@[simp, go_sem] theorem lec_more6_4 (n : Nat) : n + 4 ≤ n + 1 + 1 + 1 + 1 + 1 + 1 := by omega
@[simp, go_sem] theorem lt_more6_5 (n : Nat) : n + 1 + 1 + 1 + 1 + 1 < n + 1 + 1 + 1 + 1 + 1 + 1 := by omega
@[simp, go_sem] theorem le_more6_5 (n : Nat) : n + 1 + 1 + 1 + 1 + 1 ≤ n + 1 + 1 + 1 + 1 + 1 + 1 := by omega
@[simp, go_sem] theorem ltc_more6_5 (n : Nat) : n + 5 < n + 1 + 1 + 1 + 1 + 1 + 1 := by omega
@[simp, go_sem] theorem lec_more6_5 (n : Nat) : n + 5 ≤ n + 1 + 1 + 1 + 1 + 1 + 1 := by omega
theorem asize (w : World) (o : Obj) : (w.alloc o).heap.size = w.heap.size + 1 := by simp
theorem dsize (w : World) : w.drew.heap.size = w.heap.size := rfl
theorem with_fact {p q : Prop} (h : p) (k : p → q) : q := k h

theorem below_undrew {W w2 : World} (h : Below W.drew.heap.size W.drew w2) : Below W.heap.size W w2 := ⟨h.os, h.tape, h.output, h.size, h.block⟩

/-- Behind a call that keeps all that was there. -/
theorem below_call {B : Nat} {a w w1 : World} (h : Below B a w) (hb : Below w.heap.size w w1) (hB : B ≤ w.heap.size) : Below B a w1 := h.trans (hb.mono hB)

theorem Tryz.info32 : (Tryz.prog.info? 55).map (fun i => (i.zero, i.size, i.bytes)) = some (some (.int .u32 0), 1, 4) := by kernel_rfl
theorem Tryz.size32 : (Tryz.prog.info? 55).map (·.size) = some 1 := by kernel_rfl

/-- What owns a row of limbs reads as these limbs. -/
theorem own_sl {w : World} {base : Nat} {v : Value} {l : List Nat} (h : w.ownsRow base 55 1 v l.length (U l)) (hok : ok l) : Sl w v l := by
  rcases h.2 with ⟨rfl, h0⟩ | ⟨g, cap, cur, rfl, hbg, hg, hnc, hcm, hcs, htake⟩
  · exact ⟨none, 0, by rw [h0], hok, by omega, by unfold maxLen; omega, .inl ⟨h0, fun _ => rfl⟩⟩
  · refine ⟨_, cap, rfl, hok, hnc, hcm, .inr ⟨g, 0, rfl, (Array.getElem?_eq_some_iff.1 hg).1, fun i hi => ?_⟩⟩
    rw [Nat.zero_add, h.cellAt i (by omega)]
    simp [U, List.getD_eq_getElem?_getD, hi]

/-- The block g is a row of these limbs. -/
def RowAt (w : World) (g : Nat) (l : List Nat) : Prop := w.heap[g]? = some (.cells (U l).toArray 55 (0, 0))

theorem RowAt.heap {w : World} {g : Nat} {l : List Nat} (h : RowAt w g l) : w.heap[g]? = some (.cells (U l).toArray 55 (0, 0)) := h
theorem RowAt.lt {w : World} {g : Nat} {l : List Nat} (h : RowAt w g l) : g < w.heap.size := (Array.getElem?_eq_some_iff.1 h).1
theorem RowAt.cell {w : World} {g : Nat} {l : List Nat} (h : RowAt w g l) (i : Nat) (hi : i < l.length) : w.cell? ⟨g, i, none⟩ = some (.int .u32 ((l.getD i 0 : Nat) : Int)) := by
  rw [cell_of_row w g i (U l).toArray 55 (0, 0) h]
  simp [U, List.getD_eq_getElem?_getD, hi]
theorem RowAt.frozen {w : World} {g : Nat} {l : List Nat} (h : RowAt w g l) (i : Nat) : w.frozen? ⟨g, i, none⟩ = false := frozen_of_row w g i (U l).toArray 55 h
theorem RowAt.below {w w' : World} {g : Nat} {l : List Nat} (h : RowAt w g l) (hb : Below w.heap.size w w') : RowAt w' g l := (hb.block g h.lt).trans h
theorem RowAt.kept {w w' : World} {g : Nat} {l : List Nat} {row : Option Nat} (h : RowAt w g l) (hg : w.grownBy w' row) (hne : some g ≠ row) : RowAt w' g l := (hg.block g h.lt hne).trans h
theorem RowAt.set {w : World} {g : Nat} {l : List Nat} (h : RowAt w g l) (i x : Nat) : RowAt (w.setCell ⟨g, i, none⟩ (.int .u32 (x : Int))) g (l.set i x) := by
  have := heap_setCell_same w g i (U l).toArray 55 (.int .u32 (x : Int)) h
  unfold RowAt
  rw [this]
  simp [U, List.map_set]
theorem RowAt.slAt {w : World} {g : Nat} {l : List Nat} (h : RowAt w g l) (hok : ok l) (o n cap : Nat) (hn : o + n ≤ l.length) (hc : n ≤ cap) (hm : cap ≤ maxLen) : SlAt w (some ⟨g, o, none⟩) cap ((l.drop o).take n) := by
  refine ⟨ok_take (ok_drop hok _) _, by simp; omega, hm, .inr ⟨g, o, rfl, h.lt, fun i hi => ?_⟩⟩
  simp at hi
  rw [h.cell (o + i) (by omega)]
  have h1 : o + i < l.length := by omega
  simp [List.getD_eq_getElem?_getD, hi, h1]
theorem RowAt.whole {w : World} {g : Nat} {l : List Nat} (h : RowAt w g l) (hok : ok l) (hm : l.length ≤ 1000000000) : SlAt w (some ⟨g, 0, none⟩) l.length l := by
  have := h.slAt hok 0 l.length l.length (by omega) (Nat.le_refl _) (by unfold maxLen; omega)
  simpa using this
theorem from_row (lo g o : Nat) (h : lo ≤ g) : From lo (some ⟨g, o, none⟩) := by
  intro ad e; simp at e; subst e; exact h
theorem rowAt_of_own {w : World} {base g n : Nat} {l : List Nat} (h : w.ownsRow base 55 1 (.slice (some ⟨g, 0, none⟩) n n) n (U l)) : RowAt w g l ∧ l.length = n := by
  have hl := h.1
  rcases h.2 with ⟨h', _⟩ | ⟨g', cap', cur, h', _, hg, _, _, hcs, htake⟩
  · simp at h'
  · simp only [Value.slice.injEq, Option.some.injEq, Addr.mk.injEq, and_true, true_and] at h'
    obtain ⟨rfl, rfl⟩ := h'
    have e : cur = (U l).toArray := by
      rw [← htake, List.take_of_length_le (by rw [Array.length_toList]; omega)]
    refine ⟨?_, by simpa [U] using hl⟩
    unfold RowAt
    rw [hg, e]
theorem grow_refl (w : World) (row : Option Nat) : w.grownBy w row := ⟨rfl, rfl, rfl, Nat.le_refl _, fun _ _ _ => rfl⟩
theorem grow_set {w wr : World} {g : Nat} (h : w.grownBy wr (some g)) (i : Nat) (u : Value) : w.grownBy (wr.setCell ⟨g, i, none⟩ u) (some g) :=
  ⟨h.os, h.tape, h.output, by simpa [World.setCell] using h.size, fun k hk hne => (Below.heap_setCell wr ⟨g, i, none⟩ u k (by intro e; apply hne; simp [e])).trans (h.block k hk hne)⟩
theorem grow_drewN {w wr : World} {row : Option Nat} (h : w.grownBy wr row) (n : Nat) : w.grownBy (wr.drewN n) row := ⟨h.os, h.tape, h.output, h.size, h.block⟩
theorem grow_drew {w wr : World} {row : Option Nat} (h : w.grownBy wr row) : w.grownBy wr.drew row := ⟨h.os, h.tape, h.output, h.size, h.block⟩
theorem grow_alloc {w wr : World} {row : Option Nat} (h : w.grownBy wr row) (o : Obj) : w.grownBy (wr.alloc o) row :=
  ⟨h.os, h.tape, h.output, by simp; have := h.size; omega, fun k hk hne => (Below.heap_alloc wr o k (Nat.lt_of_lt_of_le hk h.size)).trans (h.block k hk hne)⟩
theorem grow_trans {w w1 w2 : World} {row : Option Nat} (h : w.grownBy w1 row) (k : w1.grownBy w2 row) : w.grownBy w2 row :=
  ⟨k.os.trans h.os, k.tape.trans h.tape, k.output.trans h.output, Nat.le_trans h.size k.size, fun i hi hne => (k.block i (Nat.lt_of_lt_of_le hi h.size) hne).trans (h.block i hi hne)⟩
theorem grow_below {w w1 w2 : World} {row : Option Nat} (h : w.grownBy w1 row) (k : Below w1.heap.size w1 w2) : w.grownBy w2 row :=
  ⟨k.os.trans h.os, k.tape.trans h.tape, k.output.trans h.output, Nat.le_trans h.size k.size, fun i hi hne => (k.block i (Nat.lt_of_lt_of_le hi h.size)).trans (h.block i hi hne)⟩
theorem slAt_grow {w w' : World} {g : Nat} {ao : Option Addr} {cap : Nat} {l : List Nat} (h : SlAt w ao cap l) (hg : w.grownBy w' (some g)) (hne : ∀ ad, ao = some ad → ad.block ≠ g) : SlAt w' ao cap l := by
  obtain ⟨h1, h2, h3, h4⟩ := h
  refine ⟨h1, h2, h3, ?_⟩
  rcases h4 with h4 | ⟨b, off, e, hlt, hc⟩
  · exact .inl h4
  · have hb : b ≠ g := hne _ e
    exact .inr ⟨b, off, e, Nat.lt_of_lt_of_le hlt hg.size, fun i hi => (World.cell?_of_block (w := w) (a := ⟨b, off + i, none⟩) (hg.block b hlt (by simpa using hb))).trans (hc i hi)⟩

/-- The block b is a struct of a number: its sign and its limbs. -/
def Box (w : World) (b : Nat) (x y : Value) : Prop := w.heap[b]? = some (.cells #[x, y] 24 (0, 0))
theorem Box.lt {w : World} {b : Nat} {x y : Value} (h : Box w b x y) : b < w.heap.size := (Array.getElem?_eq_some_iff.1 h).1
theorem Box.c0 {w : World} {b : Nat} {x y : Value} (h : Box w b x y) : w.cell? ⟨b, 0, none⟩ = some x := by
  rw [cell_of_row w b 0 #[x, y] 24 (0, 0) h]; rfl
theorem Box.c1 {w : World} {b : Nat} {x y : Value} (h : Box w b x y) : w.cell? ⟨b, 1, none⟩ = some y := by
  rw [cell_of_row w b 1 #[x, y] 24 (0, 0) h]; rfl
theorem Box.f {w : World} {b : Nat} {x y : Value} (h : Box w b x y) (i : Nat) : w.frozen? ⟨b, i, none⟩ = false := frozen_of_row w b i #[x, y] 24 h
theorem Box.new (w : World) (x y : Value) (b : Nat) (hb : b = w.heap.size) : Box (w.alloc (.cells #[x, y] 24)) b x y := by subst hb; exact heap_alloc_new w _
theorem Box.alloc {w : World} {b : Nat} {x y : Value} (h : Box w b x y) (o : Obj) : Box (w.alloc o) b x y := (Below.heap_alloc w o b h.lt).trans h
theorem Box.below {w w' : World} {B b : Nat} {x y : Value} (h : Box w b x y) (hb : Below B w w') (hB : b < B) : Box w' b x y := (hb.block b hB).trans h
theorem Box.keep {w w' : World} {b : Nat} {x y : Value} (h : Box w b x y) (hb : Below w.heap.size w w') : Box w' b x y := (hb.block b h.lt).trans h
theorem Box.drew {w : World} {b : Nat} {x y : Value} (h : Box w b x y) : Box w.drew b x y := h
theorem Box.set0 {w : World} {b : Nat} {x y : Value} (h : Box w b x y) (u : Value) : Box (w.setCell ⟨b, 0, none⟩ u) b u y := by
  unfold Box; rw [heap_setCell_same w b 0 #[x, y] 24 u h]; rfl
theorem Box.set1 {w : World} {b : Nat} {x y : Value} (h : Box w b x y) (u : Value) : Box (w.setCell ⟨b, 1, none⟩ u) b x u := by
  unfold Box; rw [heap_setCell_same w b 1 #[x, y] 24 u h]; rfl
theorem Box.other {w : World} {b : Nat} {x y : Value} (h : Box w b x y) {a : Addr} (ha : b ≠ a.block) (u : Value) : Box (w.setCell a u) b x y := (heap_setCell_other w a b u ha).trans h
theorem Box.grow {w w' : World} {b g : Nat} {x y : Value} (h : Box w b x y) (hg : w.grownBy w' (some g)) (hne : b ≠ g) : Box w' b x y := (hg.block b h.lt (by simpa using hne)).trans h

theorem u_length (l : List Nat) : (U l).length = l.length := by simp [U]
theorem u_one (l : List Nat) : ∀ v ∈ U l, v.oneCell' = true := by
  intro v hv
  obtain ⟨_, _, rfl⟩ := List.mem_map.1 hv
  rfl
/-- A slice's cells, as a law on copies asks for them. -/
theorem SlAt.src {w : World} {b off : Nat} {l : List Nat} (hc : ∀ i, i < l.length → w.cell? ⟨b, off + i, none⟩ = some (.int .u32 ((l.getD i 0 : Nat) : Int))) :
    ∀ j v, (U l)[j]? = some v → w.cell? ((⟨b, off, none⟩ : Addr).add j) = some v := by
  intro j v hv
  have hj : j < l.length := by
    have := (List.getElem?_eq_some_iff.1 hv).1
    simpa [U] using this
  have e : (⟨b, off, none⟩ : Addr).add j = ⟨b, off + j, none⟩ := by unfold Addr.add; split <;> simp_all
  rw [e, hc j hj]
  simp [U, hj] at hv
  rw [← hv, List.getD_eq_getElem?_getD]
  simp [hj]

/-- The walk stands at a call of the built-in copy. -/
theorem at_copy {P : Program} {ops : Array Oper} {Q : Exit → Act → World → Prop} {rest : List Oper} {a : Act} {w : World} {dst : Option Tmp} {d s : Operand} {tys : Array TypeId} {ty : TypeId} {pos : String} {after : Array Edge} {guard : Option (Nat × Bool)}
    (h : wpList P ops Q ({ dst := dst, op := .call { callee := .builtin .copy, args := #[d, s], argTypes := tys }, type := ty, pos := pos, after := after, guard := guard } :: rest) a w) :
    wpList P ops Q ({ dst := dst, op := .call { callee := .builtin .copy, args := #[d, s], argTypes := tys }, type := ty, pos := pos, after := after, guard := guard } :: rest) a w := h

theorem made32 (n : Nat) : (madeCells (Value.int .u32 0).cells (n * 1)).toList = U (List.replicate n 0) := by
  have : (Value.int .u32 0).cells = #[.int .u32 0] := rfl
  rw [this, Nat.mul_one, toList_madeCells_one]
  simp [U]

end Go.Proofs.YtogdchddmjokmaaGreatDoor

namespace Go.Proofs.YtogdchddmjokmaaGreatDoor
open Go.RowKit Lm
set_option linter.unusedSimpArgs false
set_option linter.unusedVariables false
set_option maxRecDepth 100000

theorem ret_bool {a b : Bool} (h : a = b) : Ending.returned (.bool a) = .returned (.bool b) := by rw [h]
theorem ret_int {k : IntKind} {a b : Int} (h : a = b) : Ending.returned (.int k a) = .returned (.int k b) := by rw [h]

set_option maxHeartbeats 400000 in
theorem may_any (w : World) (neg : Bool) (ao : Option Addr) (cap : Nat) (l : List Nat) (h : SlAt w ao cap l) :
    Calls Tryz.prog 63 #[.agg #[.bool neg, .slice ao l.length cap]] w fun e w' => e = .returned (.bool (mayB neg l)) ∧ Below w.heap.size w w' := by
  obtain ⟨hok, hlc, hcm, hs⟩ := h
  unfold maxLen at hcm
  rcases hs with ⟨hl0, hnil⟩ | ⟨b, off, rfl, hlt, hc⟩
  · clear hnil
    go_enter Tryz.func63, Tryz.ntmps63
    go_wp2
    go_ret
    exact ⟨by simp [mayB, hl0], (Below.refl _ _).alloc (Nat.le_refl _) _⟩
  · by_cases hl0 : l.length = 0
    · go_enter Tryz.func63, Tryz.ntmps63
      go_wp2
      go_ret
      exact ⟨by simp [mayB, hl0], (Below.refl _ _).alloc (Nat.le_refl _) _⟩
    · have hcc := hc (l.length - 1) (by omega)
      go_enter Tryz.func63, Tryz.ntmps63
      go_wp2
      go_ret
      refine ⟨ret_bool ?_, (Below.refl _ _).alloc (Nat.le_refl _) _⟩
      simp only [mayB, hl0, if_false]
      rw [Bool.eq_iff_iff]
      simp

set_option maxHeartbeats 400000 in
theorem trimmed_any (w : World) (ao : Option Addr) (cap : Nat) (l : List Nat) (h : SlAt w ao cap l) :
    Calls Tryz.prog 66 #[.slice ao l.length cap] w fun e w' => ∃ n, e = .returned (.slice ao n cap) ∧ w' = w ∧ n ≤ l.length ∧ canon (l.take n) ∧ val (l.take n) = val l := by
  obtain ⟨hok, hlc, hcm, hs⟩ := h
  unfold maxLen at hcm
  rcases hs with ⟨hl0, hnil⟩ | ⟨b, off, rfl, hlt, hc⟩
  · cases ao
    case none =>
      have hcap := hnil rfl
      subst hcap
      clear hnil
      go_enter Tryz.func66, Tryz.ntmps66
      go_wp2
      go_loop [3] (fun i => i = .int .i64 0) (fun i => (intOf i).toNat)
      case atStart => rfl
      case round =>
        subst hrel
        go_wp2
        go_ret
        exact ⟨0, rfl, rfl, by simp, canon_nil, by rw [List.eq_nil_of_length_eq_zero hl0]; rfl⟩
    case some ad =>
      clear hnil
      obtain ⟨b, off, sp⟩ := ad
      go_enter Tryz.func66, Tryz.ntmps66
      go_wp2
      go_loop [3] (fun i => i = .int .i64 0) (fun i => (intOf i).toNat)
      case atStart => rfl
      case round =>
        subst hrel
        go_wp2
        go_ret
        exact ⟨0, rfl, rfl, by simp, canon_nil, by rw [List.eq_nil_of_length_eq_zero hl0]; rfl⟩
  · go_enter Tryz.func66, Tryz.ntmps66
    go_wp2
    go_loop [3] (fun i => ∃ n : Nat, n ≤ l.length ∧ i = .int .i64 n ∧ ∀ j, n ≤ j → l.getD j 0 = 0) (fun i => (intOf i).toNat)
    case atStart => exact ⟨l.length, Nat.le_refl _, rfl, fun j hj => by rw [List.getD_eq_getElem?_getD, List.getElem?_eq_none hj]; rfl⟩
    case round =>
      obtain ⟨n, hn, rfl, hz⟩ := hrel
      by_cases h0 : n = 0
      · subst h0
        have HZ := hid hz
        clear hz
        go_wp2
        go_ret
        exact ⟨0, rfl, rfl, by simp, canon_nil, val_take_zero l 0 HZ.out⟩
      · have hcc := hc (n - 1) (by omega)
        have HZ := hid hz
        clear hz
        go_wp2
        · go_round
          case rel =>
            refine ⟨n - 1, by omega, by go_num, fun j hj => ?_⟩
            by_cases hj1 : j = n - 1
            · subst hj1
              have h1 : (((l[n - 1]?.getD 0 : Nat) : Int) == 0) = true := by assumption
              rw [List.getD_eq_getElem?_getD]
              simp at h1
              omega
            · exact HZ.out j (by omega)
          case measure => simp [intOf]; omega
        · have h1 : (((l[n - 1]?.getD 0 : Nat) : Int) == 0) = false := by assumption
          have h2 : l.getD (n - 1) 0 ≠ 0 := by
            rw [List.getD_eq_getElem?_getD]
            simp at h1
            omega
          go_ret
          exact ⟨n, rfl, rfl, hn, canon_take hn (.inr h2), val_take_zero l n HZ.out⟩

set_option maxHeartbeats 400000 in
theorem counted_any (w : World) (neg : Bool) (ao : Option Addr) (cap : Nat) (l : List Nat) (h : SlAt w ao cap l) :
    Calls Tryz.prog 45 #[.agg #[.bool neg, .slice ao l.length cap]] w fun e w' => e = .returned (if mayB neg l then .agg #[.bool neg, .slice ao l.length cap] else .agg #[.bool false, .slice none 0 0]) ∧ Below w.heap.size w w' := by
  cases hm : mayB neg l
  all_goals
    have HM := hid hm
    clear hm
    go_enter Tryz.func45, Tryz.ntmps45
    go_wp2_with fail
    refine (may_any _ neg ao cap l (by exact h.below (((Below.refl _ _).alloc (Nat.le_refl _) _).alloc (by simp) _))).mono ?_
    rintro e w1 ⟨rfl, hb⟩
    rw [HM.out]
    obtain ⟨hc1, hf1⟩ := bcell hb
    have hz1 := hb.size
    simp at hz1
    go_wp2
  · exact bodyPost_ret (v := .agg #[.bool false, .slice none 0 0]) (by simp [results, Tryz.results45, go_sem, hc1]) rfl ⟨rfl, (((below_call (((Below.refl _ _).alloc (Nat.le_refl _) _).alloc (by simp) _) hb (by simp)).setCell (by simp) _).setCell (by simp) _)⟩
  · exact bodyPost_ret (v := .agg #[.bool neg, .slice ao l.length cap]) (by simp [results, Tryz.results45, go_sem, hc1]) rfl ⟨rfl, (((below_call (((Below.refl _ _).alloc (Nat.le_refl _) _).alloc (by simp) _) hb (by simp)).setCell (by simp) _).setCell (by simp) _)⟩

set_option maxHeartbeats 400000 in
theorem copied_any (w : World) (ao : Option Addr) (cap : Nat) (l : List Nat) (h : SlAt w ao cap l) (hl : l.length ≤ 1000000) :
    Calls Tryz.prog 61 #[.slice ao l.length cap] w fun e w' => e = .returned (.slice (some ⟨w.heap.size, 0, none⟩) l.length l.length) ∧ RowAt w' w.heap.size l ∧ Below w.heap.size w w' := by
  obtain ⟨hok, hlc, hcm, hs⟩ := h
  unfold maxLen at hcm
  obtain ⟨i0, hi, hz0, hz1, hz2⟩ := info_parts Tryz.info32
  go_enter Tryz.func61, Tryz.ntmps61
  go_wp2_with (first
    | (at_make; refine wpList_make_full _ rfl _ _ 22 rfl w.heap.size 55 i0 (.int .u32 0) 1 Tryz.underlying22 hi hz0 hz1 .i64 .i64 _ _ l.length rfl rfl rfl rfl (by rw [hz2]; omega) (by unfold maxLen; omega) (by simp) ?_; intro w1 hown hgrow; rw [made32] at hown; obtain ⟨hrow, _⟩ := rowAt_of_own hown; have hb1 : Below w.heap.size w w1 := (Below.refl _ _).grown hgrow (Nat.le_refl _) (by simp); clear hown hgrow)
    | (with_reducible refine at_copy ?_; go_must (refine wpList_copy_splice rfl _ _ 22 22 rfl 55 Tryz.underlying22 Tryz.size32 _ _ _ _ _ _ rfl rfl w.heap.size 0 (U (List.replicate l.length 0)) 55 hrow.heap (U l) (by simp [u_length, Nat.min_def]) ?_ (by simp [u_length]) (u_one l) w.heap.size w hb1 (Nat.le_refl _) ?_; rotate_left; intro w2 hr2 hb2)))
  · go_ret
    have e : splice (U (List.replicate l.length 0)) 0 (U l) = U l := by
      unfold splice
      rw [List.drop_eq_nil_of_le (by simp [u_length])]
      simp
    rw [e] at hr2
    exact ⟨rfl, hr2.out, hb2⟩
  · intro h0
    rcases hs with ⟨_, _⟩ | ⟨b, off, rfl, hlt, hc⟩
    · simp [u_length] at h0; omega
    · exact ⟨_, rfl, SlAt.src fun i hi => (hb1.cell (p := ⟨b, off + i, none⟩) hlt).trans (hc i hi)⟩

theorem take_len {l : List Nat} {n : Nat} (h : n ≤ l.length) : (l.take n).length = n := by simp; omega

theorem SlAt.take {w : World} {ao : Option Addr} {cap : Nat} {l : List Nat} (h : SlAt w ao cap l) (n : Nat) (hn : n ≤ l.length) : SlAt w ao cap (l.take n) := by
  obtain ⟨h1, h2, h3, h4⟩ := h
  refine ⟨ok_take h1 n, by simp; omega, h3, ?_⟩
  rcases h4 with h4 | ⟨b, off, e, hlt, hc⟩
  · exact .inl ⟨by simp; omega, h4.2⟩
  · refine .inr ⟨b, off, e, hlt, fun i hi => ?_⟩
    rw [take_len hn] at hi
    rw [hc i (by omega)]
    simp [List.getD_eq_getElem?_getD, List.getElem?_take, hi]

/-- What may be, of a sign, canonical limbs that are some. -/
theorem may_mk {neg : Bool} {l : List Nat} (hc : canon l) (hn : l.length ≠ 0) : mayB neg l = true := by
  unfold mayB
  rw [if_neg hn]
  have := canon_last hc (by omega)
  simpa using this

set_option maxHeartbeats 400000 in
theorem made_any (w : World) (lo : Nat) (neg : Bool) (ao : Option Addr) (cap : Nat) (l : List Nat) (h : SlAt w ao cap l) (hf : From lo ao) :
    Calls Tryz.prog 53 #[.bool neg, .slice ao l.length cap] w fun e w' => ∃ neg' ao' n' cap', e = .returned (.agg #[.bool neg', .slice ao' n' cap']) ∧ Is w' lo (.agg #[.bool neg', .slice ao' n' cap']) l.length (sgn neg (val l)) ∧ Below w.heap.size w w' := by
  go_enter Tryz.func53, Tryz.ntmps53
  go_wp2_with fail
  refine (trimmed_any _ ao cap l (by exact h.below ((Below.refl _ _).alloc (Nat.le_refl _) _))).mono ?_
  rintro e w1 ⟨n, rfl, rfl, hn, hcn, hv⟩
  have hcm := h.2.2.1
  have hlc := h.2.1
  unfold maxLen at hcm
  have HV := hid hv
  have HF := hid hf
  clear hv hf
  by_cases h0 : n = 0
  · subst h0
    go_wp2
    refine bodyPost_ret (v := .agg #[.bool false, .slice none 0 0]) (by simp [results, Tryz.results53, go_sem]) rfl ⟨_, _, _, _, rfl, ?_, (by repeat (first | exact Below.refl _ _ | refine Below.alloc ?_ ?_ _ | refine Below.setCell ?_ ?_ _ | refine Below.drew ?_ | refine below_drewN ?_ _ | (· simp) | omega | (· simp; omega) | exact Below.size (by assumption) | assumption | refine below_call ?_ (by assumption) ?_))⟩
    refine ⟨false, _, 0, [], rfl, ⟨ok_nil, by simp, by unfold maxLen; omega, .inl ⟨rfl, fun _ => rfl⟩⟩, fun ad e => by simp at e, by simp, by simp [mayB], ?_⟩
    have : val l = 0 := by rw [← HV.out]; rfl
    rw [this]
    cases neg <;> simp [sgn, val]
  · go_wp2
    refine bodyPost_ret (v := .agg #[.bool neg, .slice ao n cap]) (by simp [results, Tryz.results53, go_sem]) rfl ?_
    refine with_fact (p := Below w.heap.size w _) ?_ fun hb => ⟨_, _, _, _, rfl, ?_, hb⟩
    · exact (by repeat (first | exact Below.refl _ _ | refine Below.alloc ?_ ?_ _ | refine Below.setCell ?_ ?_ _ | refine Below.drew ?_ | refine below_drewN ?_ _ | (· simp) | omega | (· simp; omega) | exact Below.size (by assumption) | assumption | refine below_call ?_ (by assumption) ?_))
    refine ⟨neg, _, _, l.take n, by rw [take_len hn], (h.below hb).take n hn, HF.out, by rw [take_len hn]; exact hn, may_mk hcn (by rw [take_len hn]; exact h0), ?_⟩
    rw [HV.out]

end Go.Proofs.YtogdchddmjokmaaGreatDoor

namespace Go.Proofs.YtogdchddmjokmaaGreatDoor
open Go.RowKit Lm
set_option linter.unusedSimpArgs false
set_option linter.unusedVariables false
set_option maxRecDepth 100000

/-- What counts as a number lies where it lay. -/
theorem counted_num (w0 w : World) (v : Value) (n : Nat) (z : Int) (h : Arg w0 v n z) (hw : Below w0.heap.size w0 w) :
    Calls Tryz.prog 45 #[v] w fun e w' => ∃ neg ao cap l, e = .returned (.agg #[.bool neg, .slice ao l.length cap]) ∧ SlAt w0 ao cap l ∧ l.length ≤ n ∧ mayB neg l = true ∧ z = sgn neg (val l) ∧ Below w.heap.size w w' := by
  obtain ⟨neg, sv, l, rfl, ⟨ao, cap, rfl, hs⟩, hn, hz⟩ := h
  refine (counted_any w neg ao cap l (hs.below hw)).mono ?_
  rintro e w' ⟨rfl, hb⟩
  cases hm : mayB neg l
  · refine ⟨false, none, 0, [], by simp, ⟨ok_nil, by simp, by unfold maxLen; omega, .inl ⟨rfl, fun _ => rfl⟩⟩, by simp, by simp [mayB], ?_, hb⟩
    rw [hz]; simp [mean, hm, sgn, val]
  · exact ⟨neg, ao, cap, l, by simp, hs, hn, hm, by rw [hz]; simp [mean, hm], hb⟩

/-- The same, what is known of it behind a name. -/
def Cnt (w0 : World) (n : Nat) (z : Int) (neg : Bool) (ao : Option Addr) (cap : Nat) (l : List Nat) : Prop := SlAt w0 ao cap l ∧ l.length ≤ n ∧ mayB neg l = true ∧ z = sgn neg (val l)
theorem counted_h (w0 w : World) (v : Value) (n : Nat) (z : Int) (h : Arg w0 v n z) (hw : Below w0.heap.size w0 w) :
    Calls Tryz.prog 45 #[v] w fun e w' => ∃ neg ao cap k l, e = .returned (.agg #[.bool neg, .slice ao k cap]) ∧ Hid (k = l.length) ∧ Cnt w0 n z neg ao cap l ∧ Below w.heap.size w w' := by
  refine (counted_num w0 w v n z h hw).mono ?_
  rintro e w' ⟨neg, ao, cap, l, rfl, h1, h2, h3, h4, h5⟩
  exact ⟨neg, ao, cap, l.length, l, rfl, rfl, ⟨h1, h2, h3, h4⟩, h5⟩

/-- Two numbers, counted, in the boxes of the call; T: the blocks up to which the call has laid its own. -/
structure Boxed2 (w : World) (T n m : Nat) (x y : Int) (wc : World) (neg1 : Bool) (ao1 : Option Addr) (cap1 : Nat) (l1 : List Nat) (neg2 : Bool) (ao2 : Option Addr) (cap2 : Nat) (l2 : List Nat) : Prop where
  c1 : Cnt w n x neg1 ao1 cap1 l1
  c2 : Cnt w m y neg2 ao2 cap2 l2
  b1 : Box wc w.heap.size (.bool neg1) (.slice ao1 l1.length cap1)
  b2 : Box wc (w.heap.size + 1) (.bool neg2) (.slice ao2 l2.length cap2)
  rs : ∀ b, w.heap.size + 1 < b → b < T → Box wc b (.bool false) (.slice none 0 0)
  sz : T ≤ wc.heap.size
  bl : Below w.heap.size w wc

theorem boxed2_mk {w W w2 : World} {T n m k1 k2 : Nat} {x y : Int} {neg1 : Bool} {ao1 : Option Addr} {cap1 : Nat} {l1 : List Nat} {neg2 : Bool} {ao2 : Option Addr} {cap2 : Nat} {l2 : List Nat} {p1 p2 q1 q2 : Value}
    (h1 : k1 = l1.length) (c1 : Cnt w n x neg1 ao1 cap1 l1) (h2 : k2 = l2.length) (c2 : Cnt w m y neg2 ao2 cap2 l2) (hT : W.heap.size = T)
    (b1 : Box W w.heap.size p1 p2) (b2 : Box W (w.heap.size + 1) q1 q2) (rs : ∀ b, w.heap.size + 1 < b → b < T → Box W b (.bool false) (.slice none 0 0)) (hw : Below w.heap.size w W) (hW : Below W.heap.size W w2) :
    Boxed2 w T n m x y ((((w2.setCell ⟨w.heap.size, 0, none⟩ (.bool neg1)).setCell ⟨w.heap.size, 1, none⟩ (.slice ao1 k1 cap1)).setCell ⟨w.heap.size + 1, 0, none⟩ (.bool neg2)).setCell ⟨w.heap.size + 1, 1, none⟩ (.slice ao2 k2 cap2)) neg1 ao1 cap1 l1 neg2 ao2 cap2 l2 := by
  subst h1 h2 hT
  refine ⟨c1, c2, ?_, ?_, fun b hb hb2 => ?_, by simpa using hW.size, ?_⟩
  · exact ((((b1.keep hW).set0 _).set1 _).other (by simp) _).other (by simp) _
  · exact ((((b2.keep hW).other (by simp) _).other (by simp) _).set0 _).set1 _
  · exact (((((rs b hb hb2).keep hW).other (by simp; omega) _).other (by simp; omega) _).other (by simp; omega) _).other (by simp; omega) _
  · exact ((((hw.trans (hW.mono hw.size)).setCell (by simp) _).setCell (by simp) _).setCell (by simp) _).setCell (by simp) _

set_option maxHeartbeats 400000 in
theorem limbsOf_any (w : World) (n : Nat) (hn : n < 18446744073709551616) :
    Calls Tryz.prog 55 #[.int .u64 (n : Int)] w fun e w' => e = .returned (.slice (some ⟨w.heap.size, 0, none⟩) 2 2) ∧ RowAt w' w.heap.size [n % 4294967296, n / 4294967296] ∧ Below w.heap.size w w' := by
  go_enter Tryz.func55, Tryz.ntmps55
  go_wp2
  go_ret
  refine ⟨rfl, ?_, (by repeat (first | exact Below.refl _ _ | refine Below.alloc ?_ ?_ _ | refine Below.setCell ?_ ?_ _ | refine Below.drew ?_ | refine below_drewN ?_ _ | (· simp) | omega | (· simp; omega) | exact Below.size (by assumption) | assumption | refine below_call ?_ (by assumption) ?_))⟩
  unfold RowAt
  rw [heap_alloc_new]
  simp [U]

theorem neg_wrap (n : Nat) (h : n ≤ 9223372036854775808) : wrap64 (IntKind.u64.wrap (-(n : Int))) = -(n : Int) := by
  unfold wrap64
  rw [IntKind.wrap_u64]
  omega
theorem ret_two {k : IntKind} {a b : Int} {p : Bool} (h : a = b) : Ending.returned (.tuple #[.int k a, .bool p]) = .returned (.tuple #[.int k b, .bool p]) := by rw [h]

/-- Is it one of int64? -/
def fits (z : Int) : Bool := decide (-9223372036854775808 ≤ z ∧ z ≤ 9223372036854775807)
/-- What To tells of z. -/
def toV (z : Int) : Value := if fits z then .tuple #[.int .i64 z, .bool true] else .tuple #[.int .i64 0, .bool false]
theorem toV_yes {z : Int} (h1 : -9223372036854775808 ≤ z) (h2 : z ≤ 9223372036854775807) : toV z = .tuple #[.int .i64 z, .bool true] := by
  unfold toV fits; rw [if_pos (by simp; omega)]
theorem toV_no {z : Int} (h : z < -9223372036854775808 ∨ 9223372036854775807 < z) : toV z = .tuple #[.int .i64 0, .bool false] := by
  unfold toV fits; rw [if_neg (by simp; omega)]

theorem or_zero (x : Nat) (hx : x < 4294967296) : bits BinOp.or IntKind.u64 ((0 : Nat) : Int) (IntKind.u64.wrap (IntKind.u64.wrap (x : Int) * 2 ^ (32 * 0))) = ((x : Nat) : Int) := by
  have e : IntKind.u64.wrap (IntKind.u64.wrap (x : Int) * 2 ^ (32 * 0)) = (x : Int) := by
    rw [IntKind.wrap_u64, IntKind.wrap_u64]; omega
  rw [e, u64_or_nat 0 x (by omega) (by omega)]
  simp
theorem or_high (x y : Nat) (hx : x < 4294967296) (hy : y < 4294967296) : bits BinOp.or IntKind.u64 (x : Int) (IntKind.u64.wrap (IntKind.u64.wrap (y : Int) * 2 ^ (32 * 1))) = ((x + 4294967296 * y : Nat) : Int) := by
  have e : IntKind.u64.wrap (IntKind.u64.wrap (y : Int) * 2 ^ (32 * 1)) = ((4294967296 * y : Nat) : Int) := by
    rw [IntKind.wrap_u64, IntKind.wrap_u64]; omega
  rw [e, u64_or_nat x _ (by omega) (by omega), Nat.or_comm, nat_join 32 _ _ (by omega) (by omega), Nat.add_comm]

theorem word_step (l : List Nat) (k : Nat) (hok : ok l) (hl : l.length ≤ 2) (hk : k < l.length) :
    bits BinOp.or IntKind.u64 ((val (l.take k) : Nat) : Int) (IntKind.u64.wrap (IntKind.u64.wrap ((l[k] : Nat) : Int) * 2 ^ (32 * k))) = ((val (l.take (k + 1)) : Nat) : Int) := by
  have h1 := val_take_succ l k hk
  have h2 := ok_getD hok k
  have h3 : l.getD k 0 = l[k] := by simp [List.getD_eq_getElem?_getD, hk]
  rw [h3] at h1 h2
  rw [h1]
  rcases (show k = 0 ∨ k = 1 by omega) with rfl | rfl
  · rw [List.take_zero]
    show bits BinOp.or IntKind.u64 ((0 : Nat) : Int) _ = _
    rw [or_zero _ h2]
    simp [val, pw]
  · have h4 := val_lt (ok_take hok 1)
    have h5 : (l.take 1).length = 1 := by simp; omega
    rw [h5] at h4
    simp only [pw] at h4
    rw [or_high _ _ (by omega) h2]
    simp [pw]

set_option maxHeartbeats 400000 in
theorem wordOf_any (w : World) (ao : Option Addr) (cap : Nat) (l : List Nat) (h : SlAt w ao cap l) (hl : l.length ≤ 2) :
    Calls Tryz.prog 86 #[.slice ao l.length cap] w fun e w' => e = .returned (.int .u64 (val l : Nat)) ∧ w' = w := by
  obtain ⟨hok, hlc, hcm, hs⟩ := h
  unfold maxLen at hcm
  rcases hs with ⟨hl0, hnil⟩ | ⟨b, off, rfl, hlt, hc⟩
  · clear hnil
    go_enter Tryz.func86, Tryz.ntmps86
    go_wp2
    go_loop [3, 8] (fun s i => i = .int .i64 0 ∧ s = .int .u64 0) (fun s i => 0)
    case atStart => exact ⟨rfl, rfl⟩
    case round =>
      obtain ⟨rfl, rfl⟩ := hrel
      go_wp2
      go_ret
      exact ⟨by rw [List.eq_nil_of_length_eq_zero hl0]; rfl, rfl⟩
  · go_enter Tryz.func86, Tryz.ntmps86
    go_wp2
    go_loop [3, 8] (fun s i => ∃ k : Nat, k ≤ l.length ∧ i = .int .i64 k ∧ s = .int .u64 (val (l.take k) : Nat)) (fun s i => l.length - (intOf i).toNat)
    case atStart => exact ⟨0, Nat.zero_le _, rfl, rfl⟩
    case round =>
      obtain ⟨k, hk, rfl, rfl⟩ := hrel
      by_cases hlt2 : k < l.length
      · have hcc := hc k hlt2
        have HS := hid (word_step l k hok hl hlt2)
        go_wp2
        go_round
        case rel => exact ⟨k + 1, by omega, by go_num, by rw [HS.out]⟩
        case measure => simp [intOf]; omega
      · have HS : Hid (val (l.take k) = val l) := hid (by rw [List.take_of_length_le (by omega)])
        go_wp2
        go_ret
        exact ⟨ret_int (by rw [HS.out]), rfl⟩

theorem sgn_abs (neg : Bool) (n : Nat) : (sgn neg n).natAbs = n := by cases neg <;> simp [sgn]
theorem big_no {neg : Bool} {l : List Nat} (hm : mayB neg l = true) (hl : ¬ l.length ≤ 2) : toV (sgn neg (val l)) = .tuple #[.int .i64 0, .bool false] := by
  apply toV_no
  have h1 := canon_pos (may_canon hm) (by intro h; subst h; simp at hl)
  have h2 := pw_mono (show 2 ≤ l.length - 1 by omega)
  simp only [pw] at h2
  have h3 := sgn_abs neg (val l)
  omega
theorem wrap_pos (n : Nat) (h : n < 9223372036854775808) : wrap64 (n : Int) = (n : Int) := by unfold wrap64; omega

theorem of_size (z : Int) (h1 : -9223372036854775808 ≤ z) (h2 : z < 0) : IntKind.u64.wrap (-(IntKind.u64.wrap z)) = ((z.natAbs : Nat) : Int) := by
  rw [IntKind.wrap_u64, IntKind.wrap_u64]; omega
theorem val_two (n : Nat) : val [n % 4294967296, n / 4294967296] = n := by simp [val]; omega

theorem ok_two {m : Nat} (h : m < 18446744073709551616) : ok [m % 4294967296, m / 4294967296] := by
  rw [ok_cons, ok_cons]; exact ⟨by omega, by omega, ok_nil⟩

/-- What is told in a cell of the call's own, and handed back. -/
def Told (lo : Nat) (n : Nat) (z : Int) (w : World) : Ending → World → Prop := fun e w' => ∃ neg ao k cap, e = .returned (.agg #[.bool neg, .slice ao k cap]) ∧ Is w' lo (.agg #[.bool neg, .slice ao k cap]) n z ∧ Below w.heap.size w w'

set_option maxHeartbeats 400000 in
theorem of_num (w : World) (z : Int) (h1 : -9223372036854775808 ≤ z) (h2 : z ≤ 9223372036854775807) :
    Calls Tryz.prog 30 #[.int .i64 z] w (Told w.heap.size 2 z w) := by
  obtain ⟨m, hm⟩ : ∃ m : Nat, m = z.natAbs := ⟨_, rfl⟩
  have hml : m < 18446744073709551616 := by omega
  have HM := hid hm
  by_cases hz : z < 0
  · have HS := hid ((of_size z h1 hz).trans (by rw [← hm]))
    clear hm
    go_enter Tryz.func30, Tryz.ntmps30
    go_wp2_with fail
    rw [HS.out]
    refine (limbsOf_any _ m hml).mono ?_
    rintro e w1 ⟨rfl, hr, hb⟩
    have hz1 := hb.size
    simp at hz1
    go_wp2_with fail
    rw [asize] at hr
    refine (made_any _ (w.heap.size + 1) true _ 2 [m % 4294967296, m / 4294967296] (by exact hr.whole (ok_two hml) (by simp)) (from_row _ _ _ (by simp))).mono ?_
    rintro e w2 ⟨neg', ao', n', cap', rfl, hI, hb2⟩
    have hW := below_call hb hb2 hb.size
    obtain ⟨hc2, hf2⟩ := bcell hW
    have HI := hid hI
    clear hI hr
    go_wp2
    refine bodyPost_ret (v := .agg #[.bool neg', .slice ao' n' cap']) (by simp [results, Tryz.results30, go_sem, hc2]) rfl ⟨_, _, _, _, rfl, ?_, (by repeat (first | exact Below.refl _ _ | refine Below.alloc ?_ ?_ _ | refine Below.setCell ?_ ?_ _ | refine Below.drew ?_ | refine below_drewN ?_ _ | (· simp) | omega | (· simp; omega) | exact Below.size (by assumption) | assumption | refine below_call ?_ (by assumption) ?_))⟩
    have e : sgn true (val [m % 4294967296, m / 4294967296]) = z := by
      rw [val_two]; simp [sgn]; rw [HM.out]; omega
    rw [← e]
    exact ((HI.out.setCell (by simp) _).setCell (by simp) _).mono (by omega) (by simp)
  · clear hm
    go_enter Tryz.func30, Tryz.ntmps30
    go_wp2_with fail
    have hzm : z = (m : Int) := by rw [HM.out]; omega
    clear HM
    subst hzm
    refine (limbsOf_any _ m hml).mono ?_
    rintro e w1 ⟨rfl, hr, hb⟩
    go_wp2_with fail
    rw [asize] at hr
    refine (made_any _ (w.heap.size + 1) false _ 2 [m % 4294967296, m / 4294967296] (by exact hr.whole (ok_two hml) (by simp)) (from_row _ _ _ (by simp))).mono ?_
    rintro e w2 ⟨neg', ao', n', cap', rfl, hI, hb2⟩
    have hW := below_call hb hb2 hb.size
    obtain ⟨hc2, hf2⟩ := bcell hW
    have HI := hid hI
    clear hI hr
    go_wp2
    refine bodyPost_ret (v := .agg #[.bool neg', .slice ao' n' cap']) (by simp [results, Tryz.results30, go_sem, hc2]) rfl ⟨_, _, _, _, rfl, ?_, (by repeat (first | exact Below.refl _ _ | refine Below.alloc ?_ ?_ _ | refine Below.setCell ?_ ?_ _ | refine Below.drew ?_ | refine below_drewN ?_ _ | (· simp) | omega | (· simp; omega) | exact Below.size (by assumption) | assumption | refine below_call ?_ (by assumption) ?_))⟩
    have e : sgn false (val [m % 4294967296, m / 4294967296]) = (m : Int) := by
      rw [val_two]; simp [sgn]
    rw [← e]
    exact ((HI.out.setCell (by simp) _).setCell (by simp) _).mono (by omega) (by simp)

end Go.Proofs.YtogdchddmjokmaaGreatDoor

namespace Go.Proofs.YtogdchddmjokmaaGreatDoor
open Go.RowKit Lm
set_option linter.unusedSimpArgs false
set_option linter.unusedVariables false
set_option maxRecDepth 100000

set_option maxHeartbeats 400000 in
theorem rmay_any (w : World) (neg : Bool) (ao : Option Addr) (cap : Nat) (l : List Nat) (h : SlAt w ao cap l) :
    Calls Tryz.prog 41 #[.agg #[.bool neg, .slice ao l.length cap]] w fun e w' => e = .returned (.bool (mayB neg l)) ∧ Below w.heap.size w w' := by
  obtain ⟨hok, hlc, hcm, hs⟩ := h
  unfold maxLen at hcm
  rcases hs with ⟨hl0, hnil⟩ | ⟨b, off, rfl, hlt, hc⟩
  · clear hnil
    cases neg
    all_goals
      go_enter Tryz.func41, Tryz.ntmps41
      go_wp2
      go_ret
      exact ⟨by simp [mayB, hl0], (by repeat (first | exact Below.refl _ _ | refine Below.alloc ?_ ?_ _ | refine Below.setCell ?_ ?_ _ | refine Below.drew ?_ | refine below_drewN ?_ _ | (· simp) | omega | (· simp; omega) | exact Below.size (by assumption) | assumption | refine below_call ?_ (by assumption) ?_))⟩
  · by_cases hl0 : l.length = 0
    · cases neg
      all_goals
        go_enter Tryz.func41, Tryz.ntmps41
        go_wp2
        go_ret
        exact ⟨by simp [mayB, hl0], (by repeat (first | exact Below.refl _ _ | refine Below.alloc ?_ ?_ _ | refine Below.setCell ?_ ?_ _ | refine Below.drew ?_ | refine below_drewN ?_ _ | (· simp) | omega | (· simp; omega) | exact Below.size (by assumption) | assumption | refine below_call ?_ (by assumption) ?_))⟩
    · have hcc := hc (l.length - 1) (by omega)
      go_enter Tryz.func41, Tryz.ntmps41
      go_wp2
      go_ret
      refine ⟨ret_bool ?_, (by repeat (first | exact Below.refl _ _ | refine Below.alloc ?_ ?_ _ | refine Below.setCell ?_ ?_ _ | refine Below.drew ?_ | refine below_drewN ?_ _ | (· simp) | omega | (· simp; omega) | exact Below.size (by assumption) | assumption | refine below_call ?_ (by assumption) ?_))⟩
      simp only [mayB, hl0, if_false]
      rw [Bool.eq_iff_iff]
      simp

set_option maxHeartbeats 400000 in
theorem rtrim_any (w : World) (ao : Option Addr) (cap : Nat) (l : List Nat) (h : SlAt w ao cap l) :
    Calls Tryz.prog 39 #[.slice ao l.length cap] w fun e w' => ∃ n, e = .returned (.slice ao n cap) ∧ w' = w ∧ n ≤ l.length ∧ canon (l.take n) ∧ val (l.take n) = val l := by
  obtain ⟨hok, hlc, hcm, hs⟩ := h
  unfold maxLen at hcm
  rcases hs with ⟨hl0, hnil⟩ | ⟨b, off, rfl, hlt, hc⟩
  · cases ao
    case none =>
      have hcap := hnil rfl
      subst hcap
      clear hnil
      go_enter Tryz.func39, Tryz.ntmps39
      go_wp2
      go_loop [3] (fun i => i = .int .i64 0) (fun i => (intOf i).toNat)
      case atStart => rfl
      case round =>
        subst hrel
        go_wp2
        go_ret
        exact ⟨0, rfl, rfl, by simp, canon_nil, by rw [List.eq_nil_of_length_eq_zero hl0]; rfl⟩
    case some ad =>
      clear hnil
      obtain ⟨b, off, sp⟩ := ad
      go_enter Tryz.func39, Tryz.ntmps39
      go_wp2
      go_loop [3] (fun i => i = .int .i64 0) (fun i => (intOf i).toNat)
      case atStart => rfl
      case round =>
        subst hrel
        go_wp2
        go_ret
        exact ⟨0, rfl, rfl, by simp, canon_nil, by rw [List.eq_nil_of_length_eq_zero hl0]; rfl⟩
  · go_enter Tryz.func39, Tryz.ntmps39
    go_wp2
    go_loop [3] (fun i => ∃ n : Nat, n ≤ l.length ∧ i = .int .i64 n ∧ ∀ j, n ≤ j → l.getD j 0 = 0) (fun i => (intOf i).toNat)
    case atStart => exact ⟨l.length, Nat.le_refl _, rfl, fun j hj => by rw [List.getD_eq_getElem?_getD, List.getElem?_eq_none hj]; rfl⟩
    case round =>
      obtain ⟨n, hn, rfl, hz⟩ := hrel
      by_cases h0 : n = 0
      · subst h0
        have HZ := hid hz
        clear hz
        go_wp2
        go_ret
        exact ⟨0, rfl, rfl, by simp, canon_nil, val_take_zero l 0 HZ.out⟩
      · have hcc := hc (n - 1) (by omega)
        have HZ := hid hz
        clear hz
        go_wp2
        · go_round
          case rel =>
            refine ⟨n - 1, by omega, by go_num, fun j hj => ?_⟩
            by_cases hj1 : j = n - 1
            · subst hj1
              have h1 : (((l[n - 1]?.getD 0 : Nat) : Int) == 0) = true := by assumption
              rw [List.getD_eq_getElem?_getD]
              simp at h1
              omega
            · exact HZ.out j (by omega)
          case measure => simp [intOf]; omega
        · have h1 : (((l[n - 1]?.getD 0 : Nat) : Int) == 0) = false := by assumption
          have h2 : l.getD (n - 1) 0 ≠ 0 := by
            rw [List.getD_eq_getElem?_getD]
            simp at h1
            omega
          go_ret
          exact ⟨n, rfl, rfl, hn, canon_take hn (.inr h2), val_take_zero l n HZ.out⟩

set_option maxHeartbeats 400000 in
theorem rnorm_any (w : World) (neg : Bool) (ao : Option Addr) (cap : Nat) (l : List Nat) (h : SlAt w ao cap l) :
    Calls Tryz.prog 49 #[.agg #[.bool neg, .slice ao l.length cap]] w fun e w' => e = .returned (if mayB neg l then .agg #[.bool neg, .slice ao l.length cap] else .agg #[.bool false, .slice none 0 0]) ∧ Below w.heap.size w w' := by
  cases hm : mayB neg l
  all_goals
    have HM := hid hm
    clear hm
    go_enter Tryz.func49, Tryz.ntmps49
    go_wp2_with fail
    refine (rmay_any _ neg ao cap l (by exact h.below (((Below.refl _ _).alloc (Nat.le_refl _) _).alloc (by simp) _))).mono ?_
    rintro e w1 ⟨rfl, hb⟩
    rw [HM.out]
    obtain ⟨hc1, hf1⟩ := bcell hb
    have hz1 := hb.size
    simp at hz1
    go_wp2
  · exact bodyPost_ret (v := .agg #[.bool false, .slice none 0 0]) (by simp [results, Tryz.results49, go_sem, hc1]) rfl ⟨rfl, (((below_call (((Below.refl _ _).alloc (Nat.le_refl _) _).alloc (by simp) _) hb (by simp)).setCell (by simp) _).setCell (by simp) _)⟩
  · exact bodyPost_ret (v := .agg #[.bool neg, .slice ao l.length cap]) (by simp [results, Tryz.results49, go_sem, hc1]) rfl ⟨rfl, (((below_call (((Below.refl _ _).alloc (Nat.le_refl _) _).alloc (by simp) _) hb (by simp)).setCell (by simp) _).setCell (by simp) _)⟩

/-- What counts as a number lies where it lay. -/
theorem rnorm_num (w0 w : World) (v : Value) (n : Nat) (z : Int) (h : Arg w0 v n z) (hw : Below w0.heap.size w0 w) :
    Calls Tryz.prog 49 #[v] w fun e w' => ∃ neg ao cap l, e = .returned (.agg #[.bool neg, .slice ao l.length cap]) ∧ SlAt w0 ao cap l ∧ l.length ≤ n ∧ mayB neg l = true ∧ z = sgn neg (val l) ∧ Below w.heap.size w w' := by
  obtain ⟨neg, sv, l, rfl, ⟨ao, cap, rfl, hs⟩, hn, hz⟩ := h
  refine (rnorm_any w neg ao cap l (hs.below hw)).mono ?_
  rintro e w' ⟨rfl, hb⟩
  cases hm : mayB neg l
  · refine ⟨false, none, 0, [], by simp, ⟨ok_nil, by simp, by unfold maxLen; omega, .inl ⟨rfl, fun _ => rfl⟩⟩, by simp, by simp [mayB], ?_, hb⟩
    rw [hz]; simp [mean, hm, sgn, val]
  · exact ⟨neg, ao, cap, l, by simp, hs, hn, hm, by rw [hz]; simp [mean, hm], hb⟩

theorem own_shape {w : World} {base : Nat} {v : Value} {n : Nat} {xs : List Value} (h : w.ownsRow base 55 1 v n xs) : ∃ ao cap, v = .slice ao n cap ∧ From base ao := by
  rcases h.2 with ⟨rfl, rfl⟩ | ⟨g, cap, cur, rfl, hb, _⟩
  · exact ⟨none, 0, rfl, fun ad e => by simp at e⟩
  · exact ⟨_, cap, rfl, from_row _ _ _ hb⟩
theorem own_empty (W : World) (base g : Nat) (hg : W.heap.size = g) (h : base ≤ g) : (W.alloc (.cells #[] 55)).ownsRow base 55 1 (.slice (some ⟨g, 0, none⟩) 0 0) 0 [] := by
  subst hg
  exact World.ownsRow_lit W #[] 0 h (by unfold maxLen; omega) (by simp)
theorem src_below {w W : World} {b off cap : Nat} {l : List Nat} (h : SlAt w (some ⟨b, off, none⟩) cap l) (hb : Below w.heap.size w W) :
    ∀ j v, (U l)[j]? = some v → W.cell? ((⟨b, off, none⟩ : Addr).add j) = some v := by
  rcases (h.below hb).2.2.2 with ⟨h, _⟩ | ⟨b', off', e, _, hc'⟩
  · intro j v hv
    have := (List.getElem?_eq_some_iff.1 hv).1
    rw [u_length] at this
    omega
  · simp at e
    obtain ⟨rfl, rfl⟩ := e
    exact SlAt.src hc'
theorem two_slAt (W : World) (g : Nat) (hg : W.heap.size = g) (x y : Int) (a b : Nat) (hx : x = (a : Int)) (hy : y = (b : Int)) (hab : ok [a, b]) :
    SlAt (W.alloc (.cells #[.int .u32 x, .int .u32 y] 55)) (some ⟨g, 0, none⟩) 2 [a, b] := by
  subst hg hx hy
  have : RowAt (W.alloc (.cells #[.int .u32 (a : Int), .int .u32 (b : Int)] 55)) W.heap.size [a, b] := by
    unfold RowAt
    rw [heap_alloc_new]
    simp [U]
  exact this.whole hab (by simp)
theorem own_slAt {w : World} {base : Nat} {ao : Option Addr} {cap : Nat} {l : List Nat} (h : w.ownsRow base 55 1 (.slice ao l.length cap) l.length (U l)) (hok : ok l) : SlAt w ao cap l := by
  obtain ⟨ao', cap', e, hs⟩ := own_sl h hok
  simp only [Value.slice.injEq, true_and] at e
  obtain ⟨rfl, rfl⟩ := e
  exact hs

set_option maxHeartbeats 400000 in
theorem rmk_any (w : World) (neg : Bool) (ao : Option Addr) (cap : Nat) (l : List Nat) (h : SlAt w ao cap l) (hl : l.length ≤ 1000000) :
    Calls Tryz.prog 27 #[.bool neg, .slice ao l.length cap] w (Told w.heap.size l.length (sgn neg (val l)) w) := by
  obtain ⟨i0, hi, hz0, hz1, hz2⟩ := info_parts Tryz.info32
  go_enter Tryz.func27, Tryz.ntmps27
  go_wp2_with fail
  refine (rtrim_any _ ao cap l (by exact h.below (by repeat (first | exact Below.refl _ _ | refine Below.alloc ?_ ?_ _ | refine Below.setCell ?_ ?_ _ | refine Below.drew ?_ | refine below_drewN ?_ _ | (· simp) | omega | (· simp; omega) | exact Below.size (by assumption) | assumption | refine below_call ?_ (by assumption) ?_)))).mono ?_
  rintro e w1 ⟨n, rfl, rfl, hn, hcn, hv⟩
  have hcm := h.2.2.1
  have hlc := h.2.1
  unfold maxLen at hcm
  have HV := hid hv
  clear hv
  by_cases h0 : n = 0
  · subst h0
    go_wp2
    refine bodyPost_ret (v := .agg #[.bool false, .slice none 0 0]) (by simp [results, Tryz.results27, go_sem]) rfl ⟨_, _, _, _, rfl, ?_, (by repeat (first | exact Below.refl _ _ | refine Below.alloc ?_ ?_ _ | refine Below.setCell ?_ ?_ _ | refine Below.drew ?_ | refine below_drewN ?_ _ | (· simp) | omega | (· simp; omega) | exact Below.size (by assumption) | assumption | refine below_call ?_ (by assumption) ?_))⟩
    refine ⟨false, _, 0, [], rfl, ⟨ok_nil, by simp, by unfold maxLen; omega, .inl ⟨rfl, fun _ => rfl⟩⟩, fun ad e => by simp at e, by simp, by simp [mayB], ?_⟩
    have : val l = 0 := by rw [← HV.out]; rfl
    rw [this]
    cases neg <;> simp [sgn, val]
  · have hs := h.2.2.2
    rcases hs with ⟨_, _⟩ | ⟨b, off, rfl, hlt, hc⟩
    · omega
    have hu : (U (l.take n)).length = n * 1 := by rw [u_length, take_len hn, Nat.mul_one]
    go_wp2_with (at_builtin; go_must (refine wpList_append_own _ rfl _ _ 22 rfl (w.heap.size + 1) 55 i0 (.int .u32 0) 1 4 Tryz.underlying22 hi hz0 hz1 hz2 rfl (by decide) (.slice (some ⟨w.heap.size + 1, 0, none⟩) 0 0) 0 [] rfl (own_empty _ _ _ (asize _ _) (Nat.le_refl _)) ⟨b, off, none⟩ n cap (U (l.take n)) rfl hu ?_ (u_one _) (by unfold maxLen; omega) (by omega) ?_ ?_))
    · exact src_below (h.take n hn) (by repeat (first | exact Below.refl _ _ | refine Below.alloc ?_ ?_ _ | refine Below.setCell ?_ ?_ _ | refine Below.drew ?_ | refine below_drewN ?_ _ | (· simp) | omega | (· simp; omega) | exact Below.size (by assumption) | assumption | refine below_call ?_ (by assumption) ?_))
    · simp
    · intro v' w' hown hgrow _
      obtain ⟨ao', cap', rfl, hfrom⟩ := own_shape hown
      have hB : Below (w.heap.size + 1) (w.alloc (.cells #[.bool false, .slice none 0 0] 24)) w' :=
        ((Below.refl _ _).alloc (by simp) _).grown hgrow (by simp) (by intro k hk; simp [Value.ownBlock] at hk; omega)
      have hB0 : Below w.heap.size w w' := ((Below.refl _ _).alloc (Nat.le_refl _) _).trans (hB.mono (by omega))
      have hS := own_slAt (l := l.take n) (by rw [take_len hn]; exact hown) (ok_take h.1 n)
      have hc1 : ∀ b o, b < w.heap.size + 1 → w'.cell? ⟨b, o, none⟩ = (w.alloc (.cells #[.bool false, .slice none 0 0] 24)).cell? ⟨b, o, none⟩ := fun b o h => hB.cell (p := ⟨b, o, none⟩) h
      have hf1 : ∀ b o, b < w.heap.size + 1 → w'.frozen? ⟨b, o, none⟩ = (w.alloc (.cells #[.bool false, .slice none 0 0] 24)).frozen? ⟨b, o, none⟩ := fun b o h => hB.frozen (p := ⟨b, o, none⟩) h
      have HS := hid hS
      have HF := hid hfrom
      clear hown hgrow hS hfrom hc
      go_wp2
      refine bodyPost_ret (v := .agg #[.bool neg, .slice ao' n cap']) (by simp [results, Tryz.results27, go_sem, hc1]) rfl ⟨_, _, _, _, rfl, ?_, (by repeat (first | exact Below.refl _ _ | refine Below.alloc ?_ ?_ _ | refine Below.setCell ?_ ?_ _ | refine Below.drew ?_ | refine below_drewN ?_ _ | (· simp) | omega | (· simp; omega) | exact Below.size (by assumption) | assumption | refine below_call ?_ (by assumption) ?_))⟩
      refine ⟨neg, _, _, l.take n, by rw [take_len hn], (HS.out.setCell HF.out (by simp) _).setCell HF.out (by simp) _, fun ad e => by have := HF.out ad e; omega, by rw [take_len hn]; exact hn, may_mk hcn (by rw [take_len hn]; exact h0), ?_⟩
      rw [HV.out]

set_option maxHeartbeats 400000 in
theorem rof_num (w : World) (z : Int) (h1 : -9223372036854775808 ≤ z) (h2 : z ≤ 9223372036854775807) :
    Calls Tryz.prog 13 #[.int .i64 z] w (Told w.heap.size 2 z w) := by
  obtain ⟨m, hm⟩ : ∃ m : Nat, m = z.natAbs := ⟨_, rfl⟩
  have hml : m < 18446744073709551616 := by omega
  have HM := hid hm
  by_cases hz : z < 0
  · have HS := hid ((of_size z h1 hz).trans (by rw [← hm]))
    have HV : Hid (sgn true (val [m % 4294967296, m / 4294967296]) = z) := hid (by rw [val_two]; simp [sgn]; omega)
    clear hm
    go_enter Tryz.func13, Tryz.ntmps13
    go_wp2_with fail
    rw [HS.out]
    refine (rmk_any _ true _ 2 [m % 4294967296, m / 4294967296] (by exact two_slAt _ _ (asize _ _) _ _ _ _ (by omega) (by omega) (ok_two hml)) (by simp)).mono ?_
    rintro e w2 ⟨neg', ao', n', cap', rfl, hI, hb2⟩
    obtain ⟨hc2, hf2⟩ := bcell hb2
    have HI := hid hI
    clear hI
    go_wp2
    refine bodyPost_ret (v := .agg #[.bool neg', .slice ao' n' cap']) (by simp [results, Tryz.results13, go_sem, hc2]) rfl ⟨_, _, _, _, rfl, ?_, (by repeat (first | exact Below.refl _ _ | refine Below.alloc ?_ ?_ _ | refine Below.setCell ?_ ?_ _ | refine Below.drew ?_ | refine below_drewN ?_ _ | (· simp) | omega | (· simp; omega) | exact Below.size (by assumption) | assumption | refine below_call ?_ (by assumption) ?_))⟩
    rw [← HV.out]
    exact ((HI.out.setCell (by simp) _).setCell (by simp) _).mono (by simp) (by simp)
  · have hzm : z = (m : Int) := by omega
    have HV : Hid (sgn false (val [m % 4294967296, m / 4294967296]) = (m : Int)) := hid (by rw [val_two]; simp [sgn])
    clear HM hm
    subst hzm
    go_enter Tryz.func13, Tryz.ntmps13
    go_wp2_with fail
    refine (rmk_any _ false _ 2 [m % 4294967296, m / 4294967296] (by exact two_slAt _ _ (asize _ _) _ _ _ _ (by omega) (by omega) (ok_two hml)) (by simp)).mono ?_
    rintro e w2 ⟨neg', ao', n', cap', rfl, hI, hb2⟩
    obtain ⟨hc2, hf2⟩ := bcell hb2
    have HI := hid hI
    clear hI
    go_wp2
    refine bodyPost_ret (v := .agg #[.bool neg', .slice ao' n' cap']) (by simp [results, Tryz.results13, go_sem, hc2]) rfl ⟨_, _, _, _, rfl, ?_, (by repeat (first | exact Below.refl _ _ | refine Below.alloc ?_ ?_ _ | refine Below.setCell ?_ ?_ _ | refine Below.drew ?_ | refine below_drewN ?_ _ | (· simp) | omega | (· simp; omega) | exact Below.size (by assumption) | assumption | refine below_call ?_ (by assumption) ?_))⟩
    rw [← HV.out]
    exact ((HI.out.setCell (by simp) _).setCell (by simp) _).mono (by simp) (by simp)

theorem rto_step (l : List Nat) (k m : Nat) (hok : ok l) (hl : l.length ≤ 2) (hk0 : 0 < k) (hk : k ≤ l.length) (hm : m = val (l.drop k)) :
    bits BinOp.or IntKind.u64 (IntKind.u64.wrap ((m : Int) * 4294967296)) (IntKind.u64.wrap ((l[k - 1]?.getD 0 : Nat) : Int)) = ((val (l.drop (k - 1)) : Nat) : Int) := by
  have h1 := drop_val l (k - 1) (by omega)
  rw [show k - 1 + 1 = k by omega, ← hm] at h1
  have h2 := ok_getD hok (k - 1)
  have h3 := val_lt (ok_drop hok k)
  have h4 := pw_mono (show (l.drop k).length ≤ 1 by simp; omega)
  simp only [pw] at h4
  rw [← hm] at h3
  rw [List.getD_eq_getElem?_getD] at h1 h2
  rw [h1]
  have e1 : IntKind.u64.wrap ((m : Int) * 4294967296) = ((4294967296 * m : Nat) : Int) := by rw [IntKind.wrap_u64]; omega
  have e2 : IntKind.u64.wrap ((l[k - 1]?.getD 0 : Nat) : Int) = ((l[k - 1]?.getD 0 : Nat) : Int) := by rw [IntKind.wrap_u64]; omega
  rw [e1, e2, u64_or_nat _ _ (by omega) (by omega), nat_join 32 _ _ (by omega) (by omega), Nat.add_comm]

end Go.Proofs.YtogdchddmjokmaaGreatDoor

namespace Go.Proofs.YtogdchddmjokmaaGreatDoor
open Go.RowKit Lm
set_option linter.unusedSimpArgs false
set_option linter.unusedVariables false
set_option maxRecDepth 100000

theorem num_any (w : World) (n : Int) :
    Calls Tryz.prog 11 #[.int .i64 n] w fun e w' => e = .returned (.int .i64 n) ∧ w' = w := by
  go_enter Tryz.func11, Tryz.ntmps11
  go_wp2
  go_ret
  exact ⟨rfl, rfl⟩

/-- Is one of them above 40? -/
def greatB (L : List Nat) : Bool := L.any (fun n => decide (40 < n))

/-- Are two numbers one, limb by limb? -/
def sameB (na : Bool) (la : List Nat) (nb : Bool) (lb : List Nat) : Bool := decide (na = nb ∧ la = lb)

set_option maxHeartbeats 800000 in
theorem same_any (w : World) (na : Bool) (ao : Option Addr) (ca : Nat) (la : List Nat) (ha : SlAt w ao ca la) (nb : Bool) (bo : Option Addr) (cb : Nat) (lb : List Nat) (hb : SlAt w bo cb lb) :
    Calls Tryz.prog 14 #[.agg #[.bool na, .slice ao la.length ca], .agg #[.bool nb, .slice bo lb.length cb]] w fun e w' => e = .returned (.bool (sameB na la nb lb)) ∧ Below w.heap.size w w' := by
  have hca := ha.2.2.1
  have hcb := hb.2.2.1
  have hla := ha.2.1
  have hlb := hb.2.1
  unfold maxLen at hca hcb
  by_cases hn : na = nb
  · subst hn
    by_cases hl : la.length = lb.length
    · by_cases h0 : lb.length = 0
      · have HL : Hid (la = lb) := hid (by rw [List.eq_nil_of_length_eq_zero h0, List.eq_nil_of_length_eq_zero (hl.trans h0)])
        rw [hl, h0]
        clear hl
        go_enter Tryz.func14, Tryz.ntmps14
        cases na
        all_goals
          go_wp2
          go_loop [5] (fun i => i = .int .i64 0) (fun i => 0)
          case atStart => rfl
          case round =>
            subst hrel
            go_wp2
            go_ret
            exact ⟨ret_bool (by simp [sameB, HL.out]), (by repeat (first | exact Below.refl _ _ | refine Below.alloc ?_ ?_ _ | refine Below.setCell ?_ ?_ _ | refine Below.drew ?_ | refine below_drewN ?_ _ | (· simp) | omega | (· simp; omega) | exact Below.size (by assumption) | assumption | refine below_call ?_ (by assumption) ?_))⟩
      · rcases ha.2.2.2 with ⟨_, _⟩ | ⟨b1, o1, rfl, hlt1, hc1⟩
        · omega
        rcases hb.2.2.2 with ⟨_, _⟩ | ⟨b2, o2, rfl, hlt2, hc2⟩
        · omega
        rw [hl] at hc1 ⊢
        have HL := hid hl
        clear hl hla
        go_enter Tryz.func14, Tryz.ntmps14
        cases na
        · go_wp2
          go_loopw [5] (fun i wr => ∃ k : Nat, k ≤ lb.length ∧ i = .int .i64 k ∧ Hid (la.take k = lb.take k) ∧ Below (w.heap.size + 1 + 1) ((w.alloc (.cells #[.bool false, .slice (some ⟨b1, o1, none⟩) lb.length ca] 24)).alloc (.cells #[.bool false, .slice (some ⟨b2, o2, none⟩) lb.length cb] 24)) wr) (fun i wr => lb.length - (intOf i).toNat)
          case atStart => exact ⟨0, Nat.zero_le _, rfl, rfl, Below.refl _ _⟩
          case round =>
            obtain ⟨k, hk, rfl, HK, hbw⟩ := hrel
            have hp0 : wr.cell? ⟨w.heap.size, 1, none⟩ = some (.slice (some ⟨b1, o1, none⟩) lb.length ca) := (hbw.cell (by simp)).trans (by simp [go_sem])
            have hp1 : wr.cell? ⟨w.heap.size + 1, 1, none⟩ = some (.slice (some ⟨b2, o2, none⟩) lb.length cb) := (hbw.cell (by simp)).trans (by simp [go_sem])
            by_cases hlt : k < lb.length
            · have hb0 : Below w.heap.size w wr := (show Below w.heap.size w _ from (by repeat (first | exact Below.refl _ _ | refine Below.alloc ?_ ?_ _ | refine Below.setCell ?_ ?_ _ | refine Below.drew ?_ | refine below_drewN ?_ _ | (· simp) | omega | (· simp; omega) | exact Below.size (by assumption) | assumption | refine below_call ?_ (by assumption) ?_))).trans (hbw.mono (by simp))
              have hx := (hb0.cell (p := ⟨b1, o1 + k, none⟩) hlt1).trans (hc1 k hlt)
              have hy := (hb0.cell (p := ⟨b2, o2 + k, none⟩) hlt2).trans (hc2 k hlt)
              have hka : k < la.length := by rw [HL.out]; exact hlt
              go_wp2
              go_quiet (fail)
              go_wp2
              · have h1 : (((la[k] : Nat) : Int) != ((lb[k] : Nat) : Int)) = true := by assumption
                go_ret
                refine ⟨ret_bool ?_, (by repeat (first | exact Below.refl _ _ | refine Below.alloc ?_ ?_ _ | refine Below.setCell ?_ ?_ _ | refine Below.drew ?_ | refine below_drewN ?_ _ | (· simp) | omega | (· simp; omega) | exact Below.size (by assumption) | assumption | refine below_call ?_ (by assumption) ?_))⟩
                simp [sameB]
                intro e
                subst e
                simp at h1
              · have h1 : (((la[k] : Nat) : Int) != ((lb[k] : Nat) : Int)) = false := by assumption
                go_roundw
                case rel =>
                  refine ⟨k + 1, by omega, by go_num, ?_, (by repeat (first | exact Below.refl _ _ | refine Below.alloc ?_ ?_ _ | refine Below.setCell ?_ ?_ _ | refine Below.drew ?_ | refine below_drewN ?_ _ | (· simp) | omega | (· simp; omega) | exact Below.size (by assumption) | assumption | refine below_call ?_ (by assumption) ?_))⟩
                  show List.take (k + 1) la = List.take (k + 1) lb
                  rw [List.take_succ_eq_append_getElem hka, List.take_succ_eq_append_getElem hlt, HK.out]
                  simp at h1
                  rw [show la[k] = lb[k] by omega]
                case measure => simp [intOf]; omega
            · have hb0 : Below w.heap.size w wr := (show Below w.heap.size w _ from (by repeat (first | exact Below.refl _ _ | refine Below.alloc ?_ ?_ _ | refine Below.setCell ?_ ?_ _ | refine Below.drew ?_ | refine below_drewN ?_ _ | (· simp) | omega | (· simp; omega) | exact Below.size (by assumption) | assumption | refine below_call ?_ (by assumption) ?_))).trans (hbw.mono (by simp))
              go_wp2
              go_ret
              refine ⟨ret_bool ?_, hb0⟩
              have h1 := HK.out
              rw [List.take_of_length_le (by rw [HL.out]; omega), List.take_of_length_le (by omega)] at h1
              simp [sameB, h1]
        · go_wp2
          go_loopw [5] (fun i wr => ∃ k : Nat, k ≤ lb.length ∧ i = .int .i64 k ∧ Hid (la.take k = lb.take k) ∧ Below (w.heap.size + 1 + 1) ((w.alloc (.cells #[.bool true, .slice (some ⟨b1, o1, none⟩) lb.length ca] 24)).alloc (.cells #[.bool true, .slice (some ⟨b2, o2, none⟩) lb.length cb] 24)) wr) (fun i wr => lb.length - (intOf i).toNat)
          case atStart => exact ⟨0, Nat.zero_le _, rfl, rfl, Below.refl _ _⟩
          case round =>
            obtain ⟨k, hk, rfl, HK, hbw⟩ := hrel
            have hp0 : wr.cell? ⟨w.heap.size, 1, none⟩ = some (.slice (some ⟨b1, o1, none⟩) lb.length ca) := (hbw.cell (by simp)).trans (by simp [go_sem])
            have hp1 : wr.cell? ⟨w.heap.size + 1, 1, none⟩ = some (.slice (some ⟨b2, o2, none⟩) lb.length cb) := (hbw.cell (by simp)).trans (by simp [go_sem])
            by_cases hlt : k < lb.length
            · have hb0 : Below w.heap.size w wr := (show Below w.heap.size w _ from (by repeat (first | exact Below.refl _ _ | refine Below.alloc ?_ ?_ _ | refine Below.setCell ?_ ?_ _ | refine Below.drew ?_ | refine below_drewN ?_ _ | (· simp) | omega | (· simp; omega) | exact Below.size (by assumption) | assumption | refine below_call ?_ (by assumption) ?_))).trans (hbw.mono (by simp))
              have hx := (hb0.cell (p := ⟨b1, o1 + k, none⟩) hlt1).trans (hc1 k hlt)
              have hy := (hb0.cell (p := ⟨b2, o2 + k, none⟩) hlt2).trans (hc2 k hlt)
              have hka : k < la.length := by rw [HL.out]; exact hlt
              go_wp2
              go_quiet (fail)
              go_wp2
              · have h1 : (((la[k] : Nat) : Int) != ((lb[k] : Nat) : Int)) = true := by assumption
                go_ret
                refine ⟨ret_bool ?_, (by repeat (first | exact Below.refl _ _ | refine Below.alloc ?_ ?_ _ | refine Below.setCell ?_ ?_ _ | refine Below.drew ?_ | refine below_drewN ?_ _ | (· simp) | omega | (· simp; omega) | exact Below.size (by assumption) | assumption | refine below_call ?_ (by assumption) ?_))⟩
                simp [sameB]
                intro e
                subst e
                simp at h1
              · have h1 : (((la[k] : Nat) : Int) != ((lb[k] : Nat) : Int)) = false := by assumption
                go_roundw
                case rel =>
                  refine ⟨k + 1, by omega, by go_num, ?_, (by repeat (first | exact Below.refl _ _ | refine Below.alloc ?_ ?_ _ | refine Below.setCell ?_ ?_ _ | refine Below.drew ?_ | refine below_drewN ?_ _ | (· simp) | omega | (· simp; omega) | exact Below.size (by assumption) | assumption | refine below_call ?_ (by assumption) ?_))⟩
                  show List.take (k + 1) la = List.take (k + 1) lb
                  rw [List.take_succ_eq_append_getElem hka, List.take_succ_eq_append_getElem hlt, HK.out]
                  simp at h1
                  rw [show la[k] = lb[k] by omega]
                case measure => simp [intOf]; omega
            · have hb0 : Below w.heap.size w wr := (show Below w.heap.size w _ from (by repeat (first | exact Below.refl _ _ | refine Below.alloc ?_ ?_ _ | refine Below.setCell ?_ ?_ _ | refine Below.drew ?_ | refine below_drewN ?_ _ | (· simp) | omega | (· simp; omega) | exact Below.size (by assumption) | assumption | refine below_call ?_ (by assumption) ?_))).trans (hbw.mono (by simp))
              go_wp2
              go_ret
              refine ⟨ret_bool ?_, hb0⟩
              have h1 := HK.out
              rw [List.take_of_length_le (by rw [HL.out]; omega), List.take_of_length_le (by omega)] at h1
              simp [sameB, h1]
    · have hl2 : ((la.length : Int) != (lb.length : Int)) = true := by simp; omega
      have HF : Hid (sameB na la na lb = false) := hid (by simp [sameB]; intro e; exact hl (by rw [e]))
      go_enter Tryz.func14, Tryz.ntmps14
      cases na
      all_goals
        go_wp2
        go_ret
        exact ⟨ret_bool HF.out.symm, (by repeat (first | exact Below.refl _ _ | refine Below.alloc ?_ ?_ _ | refine Below.setCell ?_ ?_ _ | refine Below.drew ?_ | refine below_drewN ?_ _ | (· simp) | omega | (· simp; omega) | exact Below.size (by assumption) | assumption | refine below_call ?_ (by assumption) ?_))⟩
  · have HF : Hid (sameB na la nb lb = false) := hid (by simp [sameB, hn])
    cases na <;> cases nb <;> simp at hn
    all_goals
      go_enter Tryz.func14, Tryz.ntmps14
      go_wp2
      go_ret
      exact ⟨ret_bool HF.out.symm, (by repeat (first | exact Below.refl _ _ | refine Below.alloc ?_ ?_ _ | refine Below.setCell ?_ ?_ _ | refine Below.drew ?_ | refine below_drewN ?_ _ | (· simp) | omega | (· simp; omega) | exact Below.size (by assumption) | assumption | refine below_call ?_ (by assumption) ?_))⟩

theorem sgn_may_inj {na nb : Bool} {la lb : List Nat} (ha : mayB na la = true) (hb : mayB nb lb = true) (oa : ok la) (ob : ok lb) :
    sameB na la nb lb = decide (sgn na (val la) = sgn nb (val lb)) := by
  unfold sameB
  rw [decide_eq_decide]
  constructor
  · rintro ⟨rfl, rfl⟩; rfl
  · intro h
    have hv : val la = val lb := by rw [← sgn_abs na (val la), ← sgn_abs nb (val lb), h]
    have hl : la = lb := canon_inj oa ob (may_canon ha) (may_canon hb) hv
    subst hl
    refine ⟨?_, rfl⟩
    by_cases h0 : la.length = 0
    · simp [mayB, h0] at ha hb
      rw [ha, hb]
    · have hp := canon_pos (may_canon ha) (by intro e; subst e; simp at h0)
      have hq := pw_pos (la.length - 1)
      cases na <;> cases nb <;> simp [sgn] at h ⊢ <;> omega

theorem same_num (w : World) (v v' : Value) (n n' lo lo' : Nat) (x x' : Int) (h : Is w lo v n x) (h' : Is w lo' v' n' x') :
    Calls Tryz.prog 14 #[v, v'] w fun e w' => e = .returned (.bool (decide (x = x'))) ∧ Below w.heap.size w w' := by
  obtain ⟨na, ao, ca, la, rfl, ha, _, _, hma, rfl⟩ := h
  obtain ⟨nb, bo, cb, lb, rfl, hb, _, _, hmb, rfl⟩ := h'
  refine (same_any w na ao ca la ha nb bo cb lb hb).mono ?_
  rintro e w' ⟨rfl, hw⟩
  exact ⟨by rw [sgn_may_inj hma hmb ha.1 hb.1], hw⟩

end Go.Proofs.YtogdchddmjokmaaGreatDoor

namespace Go.Proofs.YtogdchddmjokmaaGreatDoor
open Go.RowKit Lm
set_option linter.unusedSimpArgs false
set_option linter.unusedVariables false
set_option maxRecDepth 100000

theorem dv_t (r x d : Nat) (hr : r < d) (hd : d < 4294967296) (hx : x < 4294967296) : bits BinOp.or IntKind.u64 ((r : Int) * 4294967296) (x : Int) = ((r * 4294967296 + x : Nat) : Int) := by
  have e : ((r : Int) * 4294967296) = ((r * 4294967296 : Nat) : Int) := by omega
  rw [e, u64_or_nat _ _ (by omega) (by omega), nat_join 32 _ _ (by omega) (by omega)]
theorem dv_lt (r x d : Nat) (hr : r < d) (hx : x < 4294967296) : (r * 4294967296 + x) / d < 4294967296 := by
  rw [Nat.div_lt_iff_lt_mul (by omega)]
  have : (r + 1) * 4294967296 ≤ d * 4294967296 := Nat.mul_le_mul_right _ hr
  rw [Nat.mul_comm 4294967296 d]
  omega
theorem dv_q (r x d : Nat) (hr : r < d) (hx : x < 4294967296) : IntKind.u64.wrap (((r * 4294967296 + x : Nat) : Int).tdiv (d : Int)) % 4294967296 = (((r * 4294967296 + x) / d : Nat) : Int) := by
  have h := dv_lt r x d hr hx
  rw [← Int.ofNat_tdiv, IntKind.wrap_u64]
  generalize (r * 4294967296 + x) / d = q at *
  omega
theorem dv_step (q d r x t Q TT : Nat) (ht : t = r * 4294967296 + x) (hd : 0 < d) (hq : q = t / d) (hTT : TT = Q * d + r) : x + 4294967296 * TT = (q + 4294967296 * Q) * d + t % d := by
  have h := Nat.div_add_mod t d
  rw [← hq, Nat.mul_comm] at h
  rw [hTT, Nat.add_mul, Nat.mul_add, Nat.mul_assoc 4294967296 Q d]
  omega
theorem ret_u32 {a b : Int} (h : a = b) : Ending.returned (.int .u32 a) = .returned (.int .u32 b) := by rw [h]

set_option maxHeartbeats 800000 in
theorem divInto_any (w : World) (g cap : Nat) (A T : List Nat) (d : Nat) (hrow : RowAt w g (A ++ T)) (hok : ok A) (hl : A.length ≤ 1000000) (hc : A.length ≤ cap) (hd0 : 0 < d) (hd : d < 4294967296) (di : Int) (hdi : di = (d : Int)) :
    Calls Tryz.prog 65 #[.slice (some ⟨g, 0, none⟩) A.length cap, .int .u32 di] w fun e w' => ∃ (A' : List Nat) (r : Nat), e = .returned (.int .u32 (r : Int)) ∧ RowAt w' g (A' ++ T) ∧ A'.length = A.length ∧ ok A' ∧ val A = val A' * d + r ∧ r < d ∧ w.grownBy w' (some g) := by
  subst hdi
  go_enter Tryz.func65, Tryz.ntmps65
  go_wp2
  go_loopw [5, 6] (fun s i wr => ∃ (k r : Nat) (C : List Nat), k ≤ A.length ∧ i = .int .i64 ((k : Int) - 1) ∧ s = .int .u64 (r : Int) ∧ r < d ∧ Hid (C.length = A.length) ∧ ok C ∧ Hid (C.take k = A.take k) ∧ Hid (val (A.drop k) = val (C.drop k) * d + r) ∧ RowAt wr g (C ++ T) ∧ w.grownBy wr (some g)) (fun s i wr => (intOf i + 1).toNat)
  case atStart => exact ⟨A.length, 0, A, Nat.le_refl _, rfl, rfl, hd0, rfl, hok, rfl, by simp [val, Hid], hrow, grow_refl _ _⟩
  case round =>
    obtain ⟨k, r, C, hk, rfl, rfl, hr, HL, hokC, HT, HV, hrw, hgw⟩ := hrel
    by_cases hk0 : k = 0
    · subst hk0
      go_wp2
      go_ret
      have h1 := HV.out
      simp only [List.drop_zero] at h1
      exact ⟨C, r, rfl, hrw, HL.out, hokC, h1, hr, hgw⟩
    · have hx : wr.cell? ⟨g, k - 1, none⟩ = some (.int .u32 ((A.getD (k - 1) 0 : Nat) : Int)) := by
        rw [hrw.cell (k - 1) (by rw [List.length_append, HL.out]; omega), getD_append (by rw [HL.out]; omega), take_getD HT.out (by omega)]
      have hfz := hrw.frozen (k - 1)
      have hxb := ok_getD hok (k - 1)
      have HD := hid (drop_val A (k - 1) (by omega))
      obtain ⟨x, hxe⟩ : ∃ x, x = A.getD (k - 1) 0 := ⟨_, rfl⟩
      rw [← hxe] at hx hxb HD
      clear hxe
      have HT1 := hid (dv_t r x d hr hd hxb)
      have HQ := hid (dv_q r x d hr hxb)
      have hq := dv_lt r x d hr hxb
      go_wp2
      go_round
      case rel =>
        rw [HT1.out, HQ.out]
        refine ⟨k - 1, (r * 4294967296 + x) % d, C.set (k - 1) ((r * 4294967296 + x) / d), by omega, by go_num, by rw [Int.ofNat_tmod], Nat.mod_lt _ hd0, by rw [Hid, List.length_set]; exact HL.out, ok_set hokC _ _ hq, ?_, ?_, ?_, grow_set hgw _ _⟩
        · show List.take (k - 1) _ = _
          rw [set_take (Nat.le_refl _)]
          have := congrArg (List.take (k - 1)) HT.out
          simpa [List.take_take, Nat.min_eq_left (show k - 1 ≤ k by omega)] using this
        · show val (A.drop (k - 1)) = _
          rw [HD.out, show k - 1 + 1 = k by omega, set_drop (by rw [HL.out]; omega), show k - 1 + 1 = k by omega]
          exact dv_step _ d r x _ _ _ rfl hd0 rfl HV.out
        · have := hrw.set (k - 1) ((r * 4294967296 + x) / d)
          rwa [List.set_append_left _ _ (by rw [HL.out]; omega)] at this
      case measure => simp [intOf]; omega

end Go.Proofs.YtogdchddmjokmaaGreatDoor
