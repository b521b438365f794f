/-
  Plain mathematics of decimal digits: the lowest digit first, as bytes.
-/
import Derived.Test.YtalblhcfkfockaaMath
namespace Go.Proofs.Ytalblhcfkfockaa.Lm
set_option linter.unusedVariables false
set_option maxRecDepth 100000

def decv : List Nat → Nat
  | [] => 0
  | c :: r => (c - 48) + 10 * decv r

def p10 : Nat → Nat
  | 0 => 1
  | k + 1 => 10 * p10 k

def dig (l : List Nat) : Prop := ∀ c ∈ l, 48 ≤ c ∧ c ≤ 57

def decsF : Nat → Nat → List Nat
  | 0, _ => []
  | f + 1, n => if n = 0 then [] else (48 + n % 10) :: decsF f (n / 10)

/-- The digits of n, the lowest first; of nought none. -/
def decs (n : Nat) : List Nat := decsF (n + 1) n

/-- The bytes that tell z. -/
def textOf (z : Int) : List Nat := if z = 0 then [48] else (if z < 0 then [45] else []) ++ (decs z.natAbs).reverse

theorem dig_cons {c : Nat} {r : List Nat} : dig (c :: r) ↔ (48 ≤ c ∧ c ≤ 57) ∧ dig r := by unfold dig; simp
theorem dig_append {a b : List Nat} : dig (a ++ b) ↔ dig a ∧ dig b := by
  unfold dig
  constructor
  · intro h; exact ⟨fun x hx => h x (by simp [hx]), fun x hx => h x (by simp [hx])⟩
  · intro h x hx
    rcases List.mem_append.1 hx with h1 | h1
    · exact h.1 x h1
    · exact h.2 x h1
theorem dig_take {l : List Nat} (h : dig l) (k : Nat) : dig (l.take k) := fun x hx => h x (List.mem_of_mem_take hx)
theorem p10_pos (k : Nat) : 0 < p10 k := by
  induction k with
  | zero => simp [p10]
  | succ k ih => simp only [p10]; omega
theorem p10_add (a b : Nat) : p10 (a + b) = p10 a * p10 b := by
  induction a with
  | zero => simp [p10]
  | succ a ih => rw [Nat.succ_add]; simp only [p10]; rw [ih, Nat.mul_assoc]
theorem p10_mono {a b : Nat} (h : a ≤ b) : p10 a ≤ p10 b := by
  obtain ⟨c, rfl⟩ := Nat.exists_eq_add_of_le h
  rw [p10_add]
  exact Nat.le_mul_of_pos_right _ (p10_pos _)
theorem decv_append (a b : List Nat) : decv (a ++ b) = decv a + p10 a.length * decv b := by
  induction a with
  | nil => simp [decv, p10]
  | cons x r ih =>
    simp only [List.cons_append, decv, List.length_cons, p10]
    rw [ih, Nat.mul_add, ← Nat.mul_assoc]
    omega
theorem decv_pos {l : List Nat} (hd : dig l) (hc : l.getLast? ≠ some 48) (hne : l ≠ []) : l.length ≤ decv l := by
  induction l with
  | nil => simp at hne
  | cons c r ih =>
    have h1 := dig_cons.1 hd
    by_cases hr : r = []
    · subst hr
      simp at hc
      simp only [decv, List.length_cons, List.length_nil]
      omega
    · have h2 := ih h1.2 (by
        intro h; apply hc
        rw [List.getLast?_cons, h]; rfl) hr
      have h3 : 0 < r.length := by
        cases r with
        | nil => simp at hr
        | cons a b => simp
      simp only [decv, List.length_cons]
      omega
theorem decsF_eq {l : List Nat} (hd : dig l) (hc : l.getLast? ≠ some 48) (f : Nat) (hf : l.length ≤ f) : decsF f (decv l) = l := by
  induction l generalizing f with
  | nil => cases f <;> simp [decsF, decv]
  | cons c r ih =>
    have h1 := dig_cons.1 hd
    have hp := decv_pos hd hc (by simp)
    cases f with
    | zero => simp at hf
    | succ f =>
      simp only [List.length_cons] at hf hp
      have hcr : r.getLast? ≠ some 48 := by
        intro h; apply hc
        rw [List.getLast?_cons, h]; rfl
      have e1 : decv (c :: r) % 10 = c - 48 := by simp only [decv]; omega
      have e2 : decv (c :: r) / 10 = decv r := by simp only [decv]; omega
      simp only [decsF]
      rw [if_neg (by omega), e1, e2, ih h1.2 hcr f (by omega)]
      congr 1
      omega
theorem decs_eq {l : List Nat} {n : Nat} (hd : dig l) (hc : l.getLast? ≠ some 48) (hn : decv l = n) : l = decs n := by
  subst hn
  unfold decs
  by_cases h : l = []
  · subst h; rfl
  · rw [decsF_eq hd hc _ (by have := decv_pos hd hc h; omega)]
theorem decv_zero {l : List Nat} (h : ∀ c ∈ l, c = 48) : decv l = 0 := by
  induction l with
  | nil => rfl
  | cons c r ih =>
    have := h c (by simp)
    simp only [decv]
    rw [ih (fun x hx => h x (by simp [hx]))]
    omega
theorem decv_take (l : List Nat) (k : Nat) (h : ∀ j, k ≤ j → j < l.length → l.getD j 0 = 48) : decv (l.take k) = decv l := by
  conv => rhs; rw [← List.take_append_drop k l, decv_append]
  rw [decv_zero (l := l.drop k)]
  · simp
  · intro c hc
    obtain ⟨j, hj, rfl⟩ := List.getElem_of_mem hc
    simp only [List.length_drop] at hj
    have := h (k + j) (by omega) (by omega)
    rw [List.getD_eq_getElem?_getD, List.getElem?_eq_getElem (by omega)] at this
    simpa using this
theorem last_take {l : List Nat} {k : Nat} (hk : k ≤ l.length) (h : k = 0 ∨ l.getD (k - 1) 0 ≠ 48) : (l.take k).getLast? ≠ some 48 := by
  rcases h with h | h
  · subst h; simp
  · by_cases h0 : k = 0
    · subst h0; simp
    · rw [List.getLast?_eq_getElem?]
      simp only [List.length_take, List.getElem?_take]
      rw [show min k l.length - 1 = k - 1 by omega, if_pos (by omega)]
      intro h1
      apply h
      rw [List.getD_eq_getElem?_getD, h1]; rfl
theorem decv_snoc (D : List Nat) (c : Nat) (h : 48 ≤ c) : decv (D ++ [c]) = decv D + p10 D.length * (c - 48) := by
  rw [decv_append]; simp [decv]

/-- One digit more: what is told, and what is left. -/
theorem dec_step (D : List Nat) (low v j : Nat) (hj : j < 9) :
    decv (D ++ [48 + low % 10]) + p10 (D ++ [48 + low % 10]).length * (low / 10 + p10 (9 - (j + 1)) * v) = decv D + p10 D.length * (low + p10 (9 - j) * v) := by
  rw [decv_snoc _ _ (by omega), List.length_append, p10_add]
  have e : p10 (9 - j) = 10 * p10 (9 - (j + 1)) := by rw [show 9 - j = (9 - (j + 1)) + 1 by omega]; rfl
  rw [e]
  have e1 : p10 [48 + low % 10].length = 10 := rfl
  rw [e1, show 48 + low % 10 - 48 = low % 10 by omega]
  generalize p10 D.length = P
  generalize p10 (9 - (j + 1)) = R
  have e2 : P * 10 * (low / 10 + R * v) = P * (10 * (low / 10) + 10 * (R * v)) := by rw [Nat.mul_assoc, Nat.mul_add]
  rw [e2, Nat.add_assoc, ← Nat.mul_add, Nat.mul_assoc 10 R v]
  congr 2
  omega
theorem p10_low {low j : Nat} (hj : j < 9) (h : low < p10 (9 - j)) : low / 10 < p10 (9 - (j + 1)) := by
  rw [show 9 - j = (9 - (j + 1)) + 1 by omega] at h
  simp only [p10] at h
  omega

/-- How many rounds there can be. -/
theorem rounds_le {k L v N : Nat} (hv : 0 < v) (h : v * 2 ^ k ≤ N) (hN : N < pw L) : k ≤ 32 * L := by
  have h1 : 2 ^ k ≤ v * 2 ^ k := Nat.le_mul_of_pos_left _ hv
  have h2 : pw L = 2 ^ (32 * L) := by
    clear h h1 hN
    induction L with
    | zero => rfl
    | succ L ih => simp only [pw]; rw [ih, Nat.mul_succ, Nat.pow_add]; omega
  have h3 : 2 ^ k < 2 ^ (32 * L) := by omega
  have := (Nat.pow_lt_pow_iff_right (by omega)).1 h3
  omega

end Go.Proofs.Ytalblhcfkfockaa.Lm
