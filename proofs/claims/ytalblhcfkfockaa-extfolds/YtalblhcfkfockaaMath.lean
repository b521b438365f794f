/-
  Plain mathematics of limbs: a list of limbs below 2^32 and the number that it stands for.
-/
namespace Go.Proofs.Ytalblhcfkfockaa.Lm

def val : List Nat → Nat
  | [] => 0
  | x :: r => x + 4294967296 * val r

def pw : Nat → Nat
  | 0 => 1
  | k + 1 => 4294967296 * pw k

def ok (l : List Nat) : Prop := ∀ x ∈ l, x < 4294967296

def canon (l : List Nat) : Prop := l.getLast? ≠ some 0

theorem ok_nil : ok [] := by intro x h; simp at h
theorem ok_cons {x : Nat} {r : List Nat} : ok (x :: r) ↔ x < 4294967296 ∧ ok r := by
  unfold ok; simp
theorem ok_append {a b : List Nat} : ok (a ++ b) ↔ ok a ∧ ok b := by
  unfold ok
  constructor
  · intro h; exact ⟨fun x hx => h x (by simp [hx]), fun x hx => h x (by simp [hx])⟩
  · intro h x hx
    rcases List.mem_append.1 hx with h1 | h1
    · exact h.1 x h1
    · exact h.2 x h1
theorem ok_take {l : List Nat} (h : ok l) (k : Nat) : ok (l.take k) := fun x hx => h x (List.mem_of_mem_take hx)
theorem ok_drop {l : List Nat} (h : ok l) (k : Nat) : ok (l.drop k) := fun x hx => h x (List.mem_of_mem_drop hx)
theorem ok_getD {l : List Nat} (h : ok l) (k : Nat) : l.getD k 0 < 4294967296 := by
  rw [List.getD_eq_getElem?_getD]
  cases hk : l[k]? with
  | none => simp
  | some x => simp; exact h x (List.mem_of_getElem? hk)
theorem ok_set {l : List Nat} (h : ok l) (k x : Nat) (hx : x < 4294967296) : ok (l.set k x) := by
  intro y hy
  rcases List.mem_or_eq_of_mem_set hy with h1 | h1
  · exact h y h1
  · subst h1; exact hx
theorem ok_replicate (n : Nat) : ok (List.replicate n 0) := by
  intro x hx
  have := List.eq_of_mem_replicate hx
  omega

theorem pw_pos (k : Nat) : 0 < pw k := by
  induction k with
  | zero => simp [pw]
  | succ k ih => simp only [pw]; omega
theorem pw_add (a b : Nat) : pw (a + b) = pw a * pw b := by
  induction a with
  | zero => simp [pw]
  | succ a ih => rw [Nat.succ_add]; simp only [pw]; rw [ih, Nat.mul_assoc]
theorem pw_mono {a b : Nat} (h : a ≤ b) : pw a ≤ pw b := by
  obtain ⟨c, rfl⟩ := Nat.exists_eq_add_of_le h
  rw [pw_add]
  exact Nat.le_mul_of_pos_right _ (pw_pos _)

theorem val_append (a b : List Nat) : val (a ++ b) = val a + pw a.length * val b := by
  induction a with
  | nil => simp [val, pw]
  | cons x r ih =>
    simp only [List.cons_append, val, List.length_cons, pw]
    rw [ih, Nat.mul_add, ← Nat.mul_assoc]
    omega
theorem val_lt {l : List Nat} (h : ok l) : val l < pw l.length := by
  induction l with
  | nil => simp [val, pw]
  | cons x r ih =>
    have h1 := ok_cons.1 h
    have := ih h1.2
    simp only [val, List.length_cons, pw]
    omega
theorem val_take_succ (l : List Nat) (k : Nat) (h : k < l.length) : val (l.take (k + 1)) = val (l.take k) + pw k * l.getD k 0 := by
  rw [List.take_succ_eq_append_getElem h, val_append]
  have : (l.take k).length = k := by simp; omega
  rw [this]
  simp [val, List.getD_eq_getElem?_getD, h]
theorem val_replicate (n : Nat) : val (List.replicate n 0) = 0 := by
  induction n with
  | zero => rfl
  | succ n ih => rw [List.replicate_succ]; simp only [val]; rw [ih]
theorem val_take_zero (l : List Nat) (k : Nat) (h : ∀ j, k ≤ j → l.getD j 0 = 0) : val (l.take k) = val l := by
  have h1 : l = l.take k ++ l.drop k := (List.take_append_drop k l).symm
  have h2 : l.drop k = List.replicate (l.drop k).length 0 := by
    apply List.ext_getElem?
    intro j
    by_cases hj : j < (l.drop k).length
    · rw [List.getElem?_replicate, if_pos hj, List.getElem?_drop]
      have hk := h (k + j) (by omega)
      rw [List.getD_eq_getElem?_getD] at hk
      simp only [List.length_drop] at hj
      rw [List.getElem?_eq_getElem (by omega)] at hk ⊢
      simpa using hk
    · rw [List.getElem?_eq_none (by omega), List.getElem?_replicate, if_neg hj]
  conv => rhs; rw [h1, val_append, h2, val_replicate]
  simp

theorem canon_nil : canon [] := by simp [canon]
theorem canon_pos {l : List Nat} (hc : canon l) (hne : l ≠ []) : pw (l.length - 1) ≤ val l := by
  have e := List.dropLast_concat_getLast hne
  have hl : l.getLast hne ≠ 0 := by
    intro h0
    apply hc
    rw [List.getLast?_eq_some_getLast hne, h0]
  have hv : val l = val l.dropLast + pw l.dropLast.length * l.getLast hne := by
    conv => lhs; rw [← e]
    rw [val_append]; simp [val]
  rw [hv, List.length_dropLast]
  have : pw (l.length - 1) * 1 ≤ pw (l.length - 1) * l.getLast hne := Nat.mul_le_mul_left _ (by omega)
  omega
theorem val_len_lt {a b : List Nat} (ha : ok a) (hb : canon b) (h : a.length < b.length) : val a < val b := by
  have h1 := val_lt ha
  have h2 := canon_pos hb (by intro h0; subst h0; simp at h)
  have h3 := pw_mono (show a.length ≤ b.length - 1 by omega)
  omega
theorem val_inj_len {a b : List Nat} (ha : ok a) (hb : ok b) (hl : a.length = b.length) (hv : val a = val b) : a = b := by
  induction a generalizing b with
  | nil => cases b with
    | nil => rfl
    | cons y s => simp at hl
  | cons x r ih => cases b with
    | nil => simp at hl
    | cons y s =>
      have h1 := ok_cons.1 ha
      have h2 := ok_cons.1 hb
      simp only [val] at hv
      have h3 : x = y := by omega
      have h4 : val r = val s := by omega
      rw [h3, ih h1.2 h2.2 (by simpa using hl) h4]
theorem canon_inj {a b : List Nat} (ha : ok a) (hb : ok b) (ca : canon a) (cb : canon b) (hv : val a = val b) : a = b := by
  by_cases h1 : a.length < b.length
  · have := val_len_lt ha cb h1; omega
  · by_cases h2 : b.length < a.length
    · have := val_len_lt hb ca h2; omega
    · exact val_inj_len ha hb (by omega) hv
theorem val_eq_zero {l : List Nat} (hc : canon l) (hv : val l = 0) : l = [] := by
  by_cases h : l = []
  · exact h
  · have := canon_pos hc h
    have := pw_pos (l.length - 1)
    omega
theorem canon_take {l : List Nat} {k : Nat} (hk : k ≤ l.length) (h : k = 0 ∨ l.getD (k - 1) 0 ≠ 0) : canon (l.take k) := by
  unfold canon
  rcases h with h | h
  · subst h; simp
  · by_cases h0 : k = 0
    · subst h0; simp
    · rw [List.getLast?_eq_getElem?]
      simp only [List.length_take, List.getElem?_take]
      rw [show min k l.length - 1 = k - 1 by omega, if_pos (by omega)]
      intro h1
      apply h
      rw [List.getD_eq_getElem?_getD, h1]; rfl
theorem canon_last {l : List Nat} (hc : canon l) (hn : 0 < l.length) : l.getD (l.length - 1) 0 ≠ 0 := by
  intro h
  apply hc
  rw [List.getLast?_eq_getElem?]
  rw [List.getD_eq_getElem?_getD, List.getElem?_eq_getElem (by omega)] at h
  rw [List.getElem?_eq_getElem (by omega)]
  simpa using h
theorem canon_of_last {l : List Nat} (h : l.length = 0 ∨ l.getD (l.length - 1) 0 ≠ 0) : canon l := by
  have := canon_take (l := l) (k := l.length) (Nat.le_refl _) h
  simpa using this

theorem set_drop {l : List Nat} {i x : Nat} (h : i < l.length) : (l.set i x).drop i = x :: l.drop (i + 1) := by
  rw [List.drop_eq_getElem_cons (by simpa using h), List.getElem_set_self]
  congr 1
  apply List.ext_getElem?
  intro j
  simp only [List.getElem?_drop, List.getElem?_set]
  rw [if_neg (by omega)]
theorem set_take {l : List Nat} {i k x : Nat} (h : k ≤ i) : (l.set i x).take k = l.take k := by
  apply List.ext_getElem?
  intro j
  simp only [List.getElem?_take, List.getElem?_set]
  by_cases hj : j < k
  · rw [if_pos hj, if_pos hj, if_neg (by omega)]
  · rw [if_neg hj, if_neg hj]
theorem drop_val (l : List Nat) (k : Nat) (hk : k < l.length) : val (l.drop k) = l.getD k 0 + 4294967296 * val (l.drop (k + 1)) := by
  rw [List.drop_eq_getElem_cons hk]
  simp [val, List.getD_eq_getElem?_getD, hk]
theorem take_getD {a b : List Nat} {k j : Nat} (h : a.take k = b.take k) (hj : j < k) : a.getD j 0 = b.getD j 0 := by
  have : (a.take k).getD j 0 = (b.take k).getD j 0 := by rw [h]
  simpa [List.getD_eq_getElem?_getD, List.getElem?_take, hj] using this
theorem getD_append {a b : List Nat} {j : Nat} (hj : j < a.length) : (a ++ b).getD j 0 = a.getD j 0 := by
  simp [List.getD_eq_getElem?_getD, List.getElem?_append, hj]

/-- The number of a sign and a size. -/
def sgn (neg : Bool) (n : Nat) : Int := if neg then -(n : Int) else n
/-- Whether a sign and limbs are the one form of a number. -/
def mayB (neg : Bool) (l : List Nat) : Bool := if l.length = 0 then !neg else decide (l.getD (l.length - 1) 0 ≠ 0)
/-- What a sign and limbs count as. -/
def mean (neg : Bool) (l : List Nat) : Int := if mayB neg l then sgn neg (val l) else 0

theorem may_canon {neg : Bool} {l : List Nat} (h : mayB neg l = true) : canon l := by
  unfold mayB at h
  by_cases h0 : l.length = 0
  · exact canon_of_last (.inl h0)
  · rw [if_neg h0] at h
    exact canon_of_last (.inr (by simpa using h))

end Go.Proofs.Ytalblhcfkfockaa.Lm
