/-
  Mathematics of the laws RatSteps and RatHalves; numbers that are small have few limbs.
-/
import Derived.Test.YtogdchddmjokmaaGreatDoorRC
namespace Go.Proofs.YtogdchddmjokmaaGreatDoor
open Go.RowKit Lm
set_option linter.unusedSimpArgs false
set_option linter.unusedVariables false
set_option maxRecDepth 100000

/-- Half, again and again. -/
def halfs (r : Rat) (i : Nat) : Rat := Rat.divInt r.num ((r.den : Int) * 2 ^ i)
theorem halfs_zero (r : Rat) : halfs r 0 = r := by
  unfold halfs
  rw [Int.pow_zero, Int.mul_one]
  exact Rat.num_divInt_den r
theorem two_inv : ((2 : Int) : Rat)⁻¹ = Rat.divInt 1 2 := by rw [Rat.inv_def]; rfl
theorem two_ne' : ((2 : Int) : Rat) ≠ 0 := by decide
theorem halfs_succ (r : Rat) (i : Nat) : halfs r i / ((2 : Int) : Rat) = halfs r (i + 1) := by
  unfold halfs
  rw [Rat.div_def, two_inv, Rat.divInt_mul_divInt, Int.pow_succ, Int.mul_one, Int.mul_assoc]
theorem halfs_back (r : Rat) (i : Nat) : halfs r (i + 1) * ((2 : Int) : Rat) = halfs r i := by
  rw [← halfs_succ, Rat.div_mul_cancel two_ne']
theorem steps_add (i : Nat) (hi : 1 ≤ i) : Rat.divInt ((i : Int) - 1) i + Rat.divInt 1 ((i : Int) * ((i : Int) + 1)) = Rat.divInt i ((i : Int) + 1) := by
  have h0 : (i : Int) ≠ 0 := by omega
  have h1 : (i : Int) + 1 ≠ 0 := by omega
  have h2 : (i : Int) * ((i : Int) + 1) ≠ 0 := Int.mul_ne_zero h0 h1
  rw [Rat.divInt_add_divInt _ _ h0 h2, Rat.divInt_eq_divInt_iff (Int.mul_ne_zero h0 h2) h1]
  generalize (i : Int) = j
  grind
theorem divInt_den_le (p q : Int) (hq : 0 < q) : ((Rat.divInt p q).den : Int) ≤ q := by
  rw [Rat.den_divInt, if_neg (by omega)]
  have := Nat.div_le_self q.natAbs (q.gcd p)
  omega
theorem divInt_num_le (p q : Int) (hq : 0 < q) : (Rat.divInt p q).num.natAbs ≤ p.natAbs := by
  rw [Rat.num_divInt, Int.sign_eq_one_of_pos hq, Int.one_mul]
  rw [Int.natAbs_ediv_of_dvd (by exact Int.gcd_dvd_right ..)]
  exact Nat.div_le_self _ _

theorem len_le {l : List Nat} {k : Nat} (hc : canon l) (hv : val l < pw k) : l.length ≤ k := by
  by_cases h : l.length ≤ k
  · exact h
  · have hne : l ≠ [] := by
      intro e
      rw [e] at h
      simp at h
    have h1 := canon_pos hc hne
    have h2 := pw_mono (show k ≤ l.length - 1 by omega)
    omega
theorem Is.tight {w : World} {lo n k : Nat} {v : Value} {x : Int} (h : Is w lo v n x) (hx : x.natAbs < pw k) : Is w lo v k x := by
  obtain ⟨neg, ao, cap, l, e, hs, hf, hl, hm, hz⟩ := h
  refine ⟨neg, ao, cap, l, e, hs, hf, len_le (may_canon hm) ?_, hm, hz⟩
  have := sgn_abs neg (val l)
  rw [← hz] at this
  omega
theorem RIs.tight {w : World} {lo n k : Nat} {v : Value} {r : Rat} (h : RIs w lo v n r) (h1 : r.num.natAbs < pw k) (h2 : r.den < pw k) : RIs w lo v k r := by
  obtain ⟨n1, a1, k1, c1, n2, a2, k2, c2, e, i1, i2⟩ := h
  exact ⟨n1, a1, k1, c1, n2, a2, k2, c2, e, i1.tight h1, i2.tight (by simpa using h2)⟩
theorem pw_num (k : Nat) : pw k = 2 ^ (32 * k) := by
  induction k with
  | zero => rfl
  | succ k ih =>
    show 4294967296 * pw k = _
    rw [ih, show 32 * (k + 1) = 32 + 32 * k by omega, Nat.pow_add]
theorem rarg_bound {W : World} {v : Value} {n : Nat} {r : Rat} (h : RArg W v n r) (hn : 1 ≤ n) : r.num.natAbs < pw n ∧ r.den < pw n := by
  obtain ⟨n1, s1, l1, n2, s2, l2, rfl, ⟨a1, c1, rfl, h1⟩, ⟨a2, c2, rfl, h2⟩, k1, k2, rfl⟩ := h
  by_cases hf : formB n1 l1 n2 l2
  · have hp := ratMean_parts hf
    have v1 := val_lt h1.1
    have v2 := val_lt h2.1
    have m1 := pw_mono k1
    have m2 := pw_mono k2
    constructor
    · rw [hp.1, sgn_abs]
      omega
    · have h3 := sgn_abs n2 (val l2)
      rw [← hp.2] at h3
      simp at h3
      omega
  · rw [ratMean_not hf]
    have := pw_mono hn
    have h1 : pw 1 = 4294967296 := rfl
    simp
    omega
theorem halfs_bound {r : Rat} {i : Nat} (h1 : r.num.natAbs < pw 6) (h2 : r.den < pw 6) (hi : i ≤ 255) : (halfs r i).num.natAbs < pw 14 ∧ (halfs r i).den < pw 14 := by
  have hd := r.den_pos
  have hp : (0 : Int) < (r.den : Int) * 2 ^ i := Int.mul_pos (by omega) (Int.pow_pos (by omega))
  have b1 := divInt_num_le r.num _ hp
  have b2 := divInt_den_le r.num _ hp
  have m := pw_mono (show 6 ≤ 14 by omega)
  have e : (2 : Nat) ^ i < pw 8 := by
    rw [pw_num]
    exact Nat.pow_lt_pow_right (by omega) (by omega)
  have e2 : r.den * 2 ^ i < pw 14 := by
    rw [show (14 : Nat) = 6 + 8 from rfl, pw_add]
    exact Nat.mul_lt_mul_of_lt_of_lt h2 e
  have e3 : (((r.den * 2 ^ i : Nat)) : Int) = (r.den : Int) * 2 ^ i := by push_cast; rfl
  unfold halfs
  constructor
  · omega
  · omega

end Go.Proofs.YtogdchddmjokmaaGreatDoor
