/-
  Mathematics: a quotient and its rest, bit by bit.
-/
import Derived.Test.YtiicjfacekldnaaR8
namespace Go.Proofs.Ytiicjfacekldnaa
open Go.RowKit Lm
set_option linter.unusedSimpArgs false
set_option linter.unusedVariables false
set_option maxRecDepth 100000

theorem pw_two (k : Nat) : pw k = 2 ^ (32 * k) := by
  induction k with
  | zero => rfl
  | succ k ih =>
    show 4294967296 * pw k = _
    rw [ih, show 32 * (k + 1) = 32 + 32 * k by omega, Nat.pow_add]
theorem val_at {l : List Nat} {i : Nat} (h : i < l.length) : val l = val (l.take i) + pw i * (l.getD i 0 + 4294967296 * val (l.drop (i + 1))) := by
  conv => lhs; rw [← List.take_append_drop i l]
  rw [val_append, drop_val l i h, take_len (by omega)]
theorem val_setAdd {C : List Nat} {i d : Nat} (h : i < C.length) : val (C.set i (C.getD i 0 + d)) = val C + pw i * d := by
  have h1 := val_at (l := C.set i (C.getD i 0 + d)) (i := i) (by rw [List.length_set]; exact h)
  have h2 := val_at h
  have e1 : (C.set i (C.getD i 0 + d)).take i = C.take i := set_take (Nat.le_refl _)
  have e2 := set_drop (x := C.getD i 0 + d) h
  have e3 : (C.set i (C.getD i 0 + d)).drop (i + 1) = C.drop (i + 1) := by
    have := congrArg List.tail e2
    simpa [List.tail_drop] using this
  have e4 : (C.set i (C.getD i 0 + d)).getD i 0 = C.getD i 0 + d := by
    rw [List.getD_eq_getElem?_getD, List.getElem?_set_self h]; rfl
  rw [e1, e3, e4] at h1
  rw [h1, h2]
  simp only [Nat.mul_add]
  omega
/-- A bit of the number is the limb's. -/
theorem bit_at {l : List Nat} {i k : Nat} (hok : ok l) (h : i < l.length) (hk : k ≤ 31) : val l / 2 ^ (32 * i + k) % 2 = l.getD i 0 / 2 ^ k % 2 := by
  have h1 := val_at h
  have h2 : val (l.take i) < pw i := by
    have := val_lt (ok_take hok i)
    rwa [take_len (by omega)] at this
  have hp := pw_pos i
  have h3 : val l / 2 ^ (32 * i) = l.getD i 0 + 4294967296 * val (l.drop (i + 1)) := by
    rw [← pw_two, h1, Nat.add_comm, Nat.mul_add_div hp, Nat.div_eq_of_lt h2]
    omega
  rw [Nat.pow_add, ← Nat.div_div_eq_div_mul, h3]
  have e : (4294967296 : Nat) = 2 ^ k * (2 * 2 ^ (31 - k)) := by
    rw [← Nat.mul_assoc, Nat.mul_comm (2 ^ k) 2, Nat.mul_assoc, ← Nat.pow_add, show k + (31 - k) = 31 by omega]
  have h4 : (l.getD i 0 + 4294967296 * val (l.drop (i + 1))) / 2 ^ k = l.getD i 0 / 2 ^ k + 2 * (2 ^ (31 - k) * val (l.drop (i + 1))) := by
    rw [e, Nat.mul_assoc, Nat.add_mul_div_left _ _ (Nat.two_pow_pos k), Nat.mul_assoc]
  rw [h4]
  omega
theorem half_pow (a p : Nat) : a / 2 ^ (p + 1) = a / 2 ^ p / 2 := by rw [Nat.pow_succ, Nat.div_div_eq_div_mul]
theorem dm_yes {t b : Nat} (hb : 0 < b) (h : b ≤ 2 * (t / 2 % b) + t % 2) : t % b = 2 * (t / 2 % b) + t % 2 - b ∧ t / b = 2 * (t / 2 / b) + 1 := by
  have h1 := Nat.div_add_mod (t / 2) b
  have h2 := Nat.mod_lt (t / 2) hb
  have h3 : b * (2 * (t / 2 / b) + 1) = 2 * (b * (t / 2 / b)) + b := by rw [Nat.mul_add, Nat.mul_left_comm, Nat.mul_one]
  have := (Nat.div_mod_unique (a := t) (b := b) (c := 2 * (t / 2 % b) + t % 2 - b) (d := 2 * (t / 2 / b) + 1) hb).2 ⟨by omega, by omega⟩
  exact ⟨this.2, this.1⟩
theorem dm_no {t b : Nat} (hb : 0 < b) (h : ¬ b ≤ 2 * (t / 2 % b) + t % 2) : t % b = 2 * (t / 2 % b) + t % 2 ∧ t / b = 2 * (t / 2 / b) := by
  have h1 := Nat.div_add_mod (t / 2) b
  have h2 := Nat.mod_lt (t / 2) hb
  have h3 : b * (2 * (t / 2 / b)) = 2 * (b * (t / 2 / b)) := by rw [Nat.mul_left_comm]
  have := (Nat.div_mod_unique (a := t) (b := b) (c := 2 * (t / 2 % b) + t % 2) (d := 2 * (t / 2 / b)) hb).2 ⟨by omega, by omega⟩
  exact ⟨this.2, this.1⟩
/-- A bit that is not there is laid by 'or'. -/
theorem or_bit {m k : Nat} : (2 ^ (k + 1) * m) ||| 2 ^ k = 2 ^ (k + 1) * m + 2 ^ k := by
  have := Nat.two_pow_add_eq_or_of_lt (i := k + 1) (b := 2 ^ k) (Nat.pow_lt_pow_right (by omega) (by omega)) m
  exact this.symm
theorem len_val_le {a b : List Nat} (ha : ok a) (ca : canon b) (h : val b ≤ val a) : b.length ≤ a.length := by
  by_cases hl : b.length ≤ a.length
  · exact hl
  · have := val_len_lt ha ca (by omega)
    omega

end Go.Proofs.Ytiicjfacekldnaa
