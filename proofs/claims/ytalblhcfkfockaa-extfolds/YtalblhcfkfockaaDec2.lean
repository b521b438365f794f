/-
  Plain mathematics of decimal digits: reading them, the highest first.
-/
import Derived.Test.YtalblhcfkfockaaDec
namespace Go.Proofs.Ytalblhcfkfockaa.Lm
set_option linter.unusedVariables false
set_option maxRecDepth 100000

/-- The number of digits, the highest first. -/
def dval (l : List Nat) : Nat := decv l.reverse
theorem dval_nil : dval [] = 0 := rfl
theorem dval_append (a b : List Nat) : dval (a ++ b) = dval a * p10 b.length + dval b := by
  unfold dval
  rw [List.reverse_append, decv_append, List.length_reverse, Nat.mul_comm]
  omega
theorem dval_snoc (l : List Nat) (c : Nat) : dval (l ++ [c]) = dval l * 10 + (c - 48) := by
  rw [dval_append]; simp [dval, decv, p10]
theorem dval_lt {l : List Nat} (h : dig l) : dval l < p10 l.length := by
  have : ∀ l : List Nat, dig l → decv l < p10 l.length := by
    intro l
    induction l with
    | nil => intro _; simp [decv, p10]
    | cons c r ih =>
      intro h
      have h1 := dig_cons.1 h
      have := ih h1.2
      simp only [decv, List.length_cons, p10]
      omega
  have h2 := this l.reverse (fun c hc => h c (by simpa using hc))
  rw [List.length_reverse] at h2
  exact h2

theorem decsF_spec (f n : Nat) (h : n < f) : dig (decsF f n) ∧ decv (decsF f n) = n ∧ (decsF f n).getLast? ≠ some 48 := by
  induction f generalizing n with
  | zero => omega
  | succ f ih =>
    unfold decsF
    by_cases h0 : n = 0
    · rw [if_pos h0]
      exact ⟨by intro c hc; simp at hc, by simp [decv, h0], by simp⟩
    · rw [if_neg h0]
      have h1 := ih (n / 10) (by omega)
      refine ⟨dig_cons.2 ⟨by omega, h1.1⟩, ?_, ?_⟩
      · simp only [decv]; rw [h1.2.1]; omega
      · by_cases h2 : decsF f (n / 10) = []
        · rw [h2]
          have h3 := h1.2.1
          rw [h2] at h3
          simp only [decv] at h3
          simp
          omega
        · rw [List.getLast?_cons]
          intro h3
          apply h1.2.2
          cases hx : (decsF f (n / 10)).getLast? with
          | none => simp at hx; exact absurd hx h2
          | some y => rw [hx] at h3; simpa using h3
theorem decs_dig (n : Nat) : dig (decs n) := (decsF_spec (n + 1) n (by omega)).1
theorem decs_val (n : Nat) : decv (decs n) = n := (decsF_spec (n + 1) n (by omega)).2.1
theorem decs_last (n : Nat) : (decs n).getLast? ≠ some 48 := (decsF_spec (n + 1) n (by omega)).2.2

/-- Digits, one or more, without noughts ahead. -/
def goodD (d : List Nat) : Prop := d ≠ [] ∧ dig d ∧ (d.head? = some 48 → d.length = 1)
/-- Is it below nought that is told? -/
def isNeg (l : List Nat) : Bool := l.head? == some 45
def bodyOf (l : List Nat) : List Nat := if isNeg l then l.tail else l
/-- What may be read. -/
def mayRead (l : List Nat) : Prop := goodD (bodyOf l) ∧ ¬ (isNeg l = true ∧ bodyOf l = [48])
/-- What is read. -/
def readV (l : List Nat) : Int := sgn (isNeg l) (dval (bodyOf l))

theorem text_read (z : Int) : mayRead (textOf z) ∧ readV (textOf z) = z := by
  unfold textOf
  by_cases h0 : z = 0
  · rw [if_pos h0]
    subst h0
    refine ⟨⟨⟨by simp [bodyOf, isNeg], by intro c hc; simp [bodyOf, isNeg] at hc; omega, by simp [bodyOf, isNeg]⟩, by simp [isNeg]⟩, by simp [readV, isNeg, bodyOf, sgn, dval, decv]⟩
  · rw [if_neg h0]
    have hne : decs z.natAbs ≠ [] := by
      intro h
      have := decs_val z.natAbs
      rw [h] at this
      simp only [decv] at this
      omega
    have hd : dig (decs z.natAbs).reverse := fun c hc => decs_dig _ c (by simpa using hc)
    have hh : (decs z.natAbs).reverse.head? ≠ some 48 := by rw [List.head?_reverse]; exact decs_last _
    have hr : (decs z.natAbs).reverse ≠ [] := by simpa using hne
    have hg : goodD (decs z.natAbs).reverse := ⟨hr, hd, fun h => absurd h hh⟩
    have hv : dval (decs z.natAbs).reverse = z.natAbs := by unfold dval; rw [List.reverse_reverse]; exact decs_val _
    by_cases hz : z < 0
    · rw [if_pos hz]
      have hn : isNeg ([45] ++ (decs z.natAbs).reverse) = true := by simp [isNeg]
      have hb : bodyOf ([45] ++ (decs z.natAbs).reverse) = (decs z.natAbs).reverse := by unfold bodyOf; rw [hn]; rfl
      refine ⟨⟨by rw [hb]; exact hg, ?_⟩, ?_⟩
      · rw [hb]
        rintro ⟨_, h⟩
        rw [h] at hh
        simp at hh
      · unfold readV
        rw [hb, hn, hv]
        simp [sgn]; omega
    · rw [if_neg hz, List.nil_append]
      have hn : isNeg (decs z.natAbs).reverse = false := by
        unfold isNeg
        cases hx : (decs z.natAbs).reverse with
        | nil => rfl
        | cons c r =>
          have := hd c (by rw [hx]; simp)
          simp
          omega
      have hb : bodyOf (decs z.natAbs).reverse = (decs z.natAbs).reverse := by unfold bodyOf; rw [hn]; rfl
      refine ⟨⟨by rw [hb]; exact hg, by rw [hn]; simp⟩, ?_⟩
      unfold readV
      rw [hb, hn, hv]
      simp [sgn]; omega
/-- Two numbers are one just where their texts are. -/
theorem text_inj (x y : Int) : textOf x = textOf y ↔ x = y := by
  constructor
  · intro h
    rw [← (text_read x).2, ← (text_read y).2, h]
  · intro h; rw [h]
/-- A number has so many digits at most. -/
theorem p10_le_pw (n k : Nat) (h : 10 * k ≤ n) : pw k ≤ p10 n := by
  obtain ⟨c, rfl⟩ := Nat.exists_eq_add_of_le h
  rw [p10_add]
  have : pw k ≤ p10 (10 * k) := by
    clear h
    induction k with
    | zero => simp [pw, p10]
    | succ k ih =>
      rw [Nat.mul_succ, p10_add]
      have e : p10 10 = 10000000000 := by simp [p10]
      rw [e]
      simp only [pw]
      omega
  exact Nat.le_trans this (Nat.le_mul_of_pos_right _ (p10_pos _))
theorem decv_ge {l : List Nat} (hd : dig l) (hc : l.getLast? ≠ some 48) (hne : l ≠ []) : p10 (l.length - 1) ≤ decv l := by
  induction l with
  | nil => simp at hne
  | cons c r ih =>
    have h1 := dig_cons.1 hd
    by_cases hr : r = []
    · subst hr
      simp at hc
      simp [decv, p10]
      omega
    · have h2 := ih h1.2 (by
        intro h; apply hc
        rw [List.getLast?_cons, h]; rfl) hr
      obtain ⟨m, hm⟩ : ∃ m, r.length = m + 1 := ⟨r.length - 1, by cases r with | nil => simp at hr | cons a b => simp⟩
      rw [hm] at h2
      simp only [decv, List.length_cons, hm, Nat.add_sub_cancel, p10] at h2 ⊢
      omega
/-- The text of a number of so many limbs has no more bytes than that. -/
theorem text_len {z : Int} {k : Nat} (h : z.natAbs < pw k) : (textOf z).length ≤ 10 * k + 2 := by
  unfold textOf
  by_cases h0 : z = 0
  · rw [if_pos h0]; simp
  · rw [if_neg h0]
    have h1 : (decs z.natAbs).length ≤ 10 * k := by
      by_cases hne : decs z.natAbs = []
      · rw [hne]; simp
      · have h2 := decv_ge (decs_dig _) (decs_last z.natAbs) hne
        rw [decs_val] at h2
        have hl : 0 < (decs z.natAbs).length := by
          cases hx : decs z.natAbs with
          | nil => exact absurd hx hne
          | cons a b => simp
        rcases Nat.lt_or_ge (10 * k) (decs z.natAbs).length with h3 | h3
        · have h4 := p10_le_pw ((decs z.natAbs).length - 1) k (by omega)
          omega
        · exact h3
    simp only [List.length_append, List.length_reverse]
    have h2 : (if z < 0 then [45] else ([] : List Nat)).length ≤ 1 := by split <;> simp
    omega

end Go.Proofs.Ytalblhcfkfockaa.Lm
