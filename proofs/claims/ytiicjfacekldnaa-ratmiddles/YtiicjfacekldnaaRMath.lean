/-
  Mathematics: quotients as the model of package rat has them, and as Lean's own.
-/
import Derived.Test.YtiicjfacekldnaaW32
namespace Go.Proofs.Ytiicjfacekldnaa
open Go.RowKit Lm
set_option linter.unusedSimpArgs false
set_option linter.unusedVariables false
set_option maxRecDepth 100000

theorem dv_abs (x y : Int) : (dv x y).natAbs = Nat.gcd x.natAbs y.natAbs := by unfold dv; split <;> simp

theorem dv_dvd_left (x y : Int) : dv x y ∣ x := by
  rw [← Int.natAbs_dvd_natAbs, dv_abs]; exact Nat.gcd_dvd_left _ _
theorem dv_dvd_right (x y : Int) : dv x y ∣ y := by
  rw [← Int.natAbs_dvd_natAbs, dv_abs]; exact Nat.gcd_dvd_right _ _

theorem least_num (x y : Int) (h : y ≠ 0) : (Rat.divInt x y).num = x.tdiv (dv x y) := by
  have hd : dv x y ≠ 0 := by
    have : 0 < Nat.gcd x.natAbs y.natAbs := Nat.gcd_pos_of_pos_right _ (by omega)
    unfold dv; split <;> omega
  have hg : ((Int.gcd y x : Nat) : Int) = if y < 0 then - dv x y else dv x y := by
    unfold dv Int.gcd; rw [Nat.gcd_comm]; split <;> simp
  have ha := dv_dvd_left x y
  rw [Rat.num_divInt, hg]
  generalize dv x y = d at *
  obtain ⟨a, rfl⟩ := ha
  rw [Int.mul_tdiv_cancel_left _ hd]
  by_cases hy : y < 0
  · rw [if_pos hy, Int.sign_eq_neg_one_of_neg hy, show (-1 : Int) * (d * a) = (-d) * a by grind]
    exact Int.mul_ediv_cancel_left _ (by omega)
  · rw [if_neg hy, Int.sign_eq_one_of_pos (by omega), Int.one_mul]
    exact Int.mul_ediv_cancel_left _ hd
theorem least_den (x y : Int) (h : y ≠ 0) : ((Rat.divInt x y).den : Int) = y.tdiv (dv x y) := by
  have hd : dv x y ≠ 0 := by
    have : 0 < Nat.gcd x.natAbs y.natAbs := Nat.gcd_pos_of_pos_right _ (by omega)
    unfold dv; split <;> omega
  obtain ⟨a, ha⟩ := dv_dvd_right x y
  rw [Rat.den_divInt, if_neg h]
  have e : y.tdiv (dv x y) = a := by
    conv => lhs; lhs; rw [ha]
    exact Int.mul_tdiv_cancel_left _ hd
  rw [e]
  have hg : Int.gcd y x = (dv x y).natAbs := by
    rw [dv_abs]; unfold Int.gcd; rw [Nat.gcd_comm]
  rw [hg]
  have h3 : y.natAbs / (dv x y).natAbs = a.natAbs := by
    conv => lhs; lhs; rw [ha]
    rw [Int.natAbs_mul]
    exact Nat.mul_div_cancel_left _ (by omega)
  rw [h3]
  have hp : 0 ≤ a := by
    by_cases hy : y < 0
    · have h4 : dv x y < 0 := by
        have : 0 < Nat.gcd x.natAbs y.natAbs := Nat.gcd_pos_of_pos_right _ (by omega)
        unfold dv; rw [if_pos hy]; omega
      by_cases hn : 0 ≤ a
      · exact hn
      · have := Int.mul_pos_of_neg_of_neg h4 (show a < 0 by omega)
        omega
    · have h4 : 0 < dv x y := by
        have : 0 < Nat.gcd x.natAbs y.natAbs := Nat.gcd_pos_of_pos_right _ (by omega)
        unfold dv; rw [if_neg hy]; omega
      by_cases hn : 0 ≤ a
      · exact hn
      · have := Int.mul_neg_of_pos_of_neg h4 (show a < 0 by omega)
        omega
  omega

/-- Which of two is greater. -/
def cmpR (r s : Rat) : Int := if r < s then -1 else if s < r then 1 else 0
theorem cmp_rat (r s : Rat) : cmpI (r.num * s.den) (s.num * r.den) = cmpR r s := by
  unfold cmpI cmpR
  simp only [Rat.lt_iff]

theorem add_rat (r s : Rat) : Rat.divInt (r.num * s.den + s.num * r.den) (r.den * s.den) = r + s := by
  rw [Rat.add_def', ← Rat.divInt_ofNat]; simp
theorem mul_rat (r s : Rat) : Rat.divInt (r.num * s.num) (r.den * s.den) = r * s := by
  rw [Rat.mul_def', ← Rat.divInt_ofNat]; simp
theorem sub_rat (r s : Rat) : Rat.divInt (r.num * s.den + (- s.num) * r.den) (r.den * s.den) = r - s := by
  rw [Rat.sub_def', ← Rat.divInt_ofNat]; simp [Int.sub_eq_add_neg, Int.neg_mul]
theorem div_rat (r s : Rat) : Rat.divInt (r.num * s.den) (r.den * s.num) = r / s := by
  rw [Rat.div_def, Rat.inv_def]
  conv => rhs; lhs; rw [← Rat.num_divInt_den r]
  rw [Rat.divInt_mul_divInt]
theorem floor_rat (r : Rat) : r.floor = if r.num.tmod r.den < 0 then r.num.tdiv r.den - 1 else r.num.tdiv r.den := by
  rw [Rat.floor_def]
  have hd : (0 : Int) < r.den := by have := r.den_pos; omega
  generalize r.num = a at *
  generalize (r.den : Int) = b at *
  have h1 := Int.tmod_add_mul_tdiv a b
  have h2 := Int.emod_add_mul_ediv a b
  have h3 := Int.emod_nonneg a (show b ≠ 0 by omega)
  have h4 := Int.emod_lt_of_pos a hd
  have h5 := Int.tmod_lt_of_pos a hd
  split
  · rename_i h
    have h6 : -b < a.tmod b := Int.lt_tmod_of_pos a hd
    have : a / b = a.tdiv b - 1 := by
      rw [Int.ediv_eq_iff_of_pos hd]
      constructor <;> grind
    exact this
  · rw [Int.ediv_eq_iff_of_pos hd]
    constructor <;> grind

/-- Is it in the least form, with a denominator? -/
def formB (n1 : Bool) (l1 : List Nat) (n2 : Bool) (l2 : List Nat) : Prop := mayB n1 l1 = true ∧ mayB n2 l2 = true ∧ 0 < sgn n2 (val l2) ∧ Nat.gcd (val l1) (val l2) = 1
instance (n1 : Bool) (l1 : List Nat) (n2 : Bool) (l2 : List Nat) : Decidable (formB n1 l1 n2 l2) := by unfold formB; exact inferInstance
/-- What a quotient counts as. -/
def ratMean (n1 : Bool) (l1 : List Nat) (n2 : Bool) (l2 : List Nat) : Rat := if formB n1 l1 n2 l2 then Rat.divInt (sgn n1 (val l1)) (sgn n2 (val l2)) else 0
theorem divInt_parts {x y : Int} (hy : 0 < y) (hg : Nat.gcd x.natAbs y.natAbs = 1) : (Rat.divInt x y).num = x ∧ ((Rat.divInt x y).den : Int) = y := by
  have hd : dv x y = 1 := by unfold dv; rw [if_neg (by omega), hg]; rfl
  rw [least_num x y (by omega), least_den x y (by omega), hd]
  simp
theorem ratMean_parts {n1 : Bool} {l1 : List Nat} {n2 : Bool} {l2 : List Nat} (h : formB n1 l1 n2 l2) : (ratMean n1 l1 n2 l2).num = sgn n1 (val l1) ∧ ((ratMean n1 l1 n2 l2).den : Int) = sgn n2 (val l2) := by
  unfold ratMean
  rw [if_pos h]
  exact divInt_parts h.2.2.1 (by rw [sgn_abs, sgn_abs]; exact h.2.2.2)
theorem ratMean_not {n1 : Bool} {l1 : List Nat} {n2 : Bool} {l2 : List Nat} (h : ¬ formB n1 l1 n2 l2) : ratMean n1 l1 n2 l2 = 0 := by
  unfold ratMean
  rw [if_neg h]

/-- A quotient that is handed in. -/
def RArg (w : World) (v : Value) (n : Nat) (r : Rat) : Prop := ∃ n1 s1 l1 n2 s2 l2, v = .agg #[.bool n1, s1, .bool n2, s2] ∧ Sl w s1 l1 ∧ Sl w s2 l2 ∧ l1.length ≤ n ∧ l2.length ≤ n ∧ r = ratMean n1 l1 n2 l2
/-- Two numbers beside each other. -/
def PArg (w : World) (v : Value) (n : Nat) (x y : Int) : Prop := ∃ n1 s1 n2 s2, v = .agg #[.bool n1, s1, .bool n2, s2] ∧ Arg w (.agg #[.bool n1, s1]) n x ∧ Arg w (.agg #[.bool n2, s2]) n y
/-- A quotient that is told. -/
def RIs (w : World) (lo : Nat) (v : Value) (n : Nat) (r : Rat) : Prop := ∃ n1 a1 k1 c1 n2 a2 k2 c2, v = .agg #[.bool n1, .slice a1 k1 c1, .bool n2, .slice a2 k2 c2] ∧ Is w lo (.agg #[.bool n1, .slice a1 k1 c1]) n r.num ∧ Is w lo (.agg #[.bool n2, .slice a2 k2 c2]) n (r.den : Int)

theorem Arg.mono {w : World} {v : Value} {n m : Nat} {x : Int} (h : Arg w v n x) (hm : n ≤ m) : Arg w v m x := by
  obtain ⟨neg, sv, l, e, hs, hl, hz⟩ := h
  exact ⟨neg, sv, l, e, hs, by omega, hz⟩
theorem RArg.below {w w' : World} {v : Value} {n : Nat} {r : Rat} (h : RArg w v n r) (hb : Below w.heap.size w w') : RArg w' v n r := by
  obtain ⟨n1, s1, l1, n2, s2, l2, e, ⟨a1, c1, e1, h1⟩, ⟨a2, c2, e2, h2⟩, hr⟩ := h
  exact ⟨n1, s1, l1, n2, s2, l2, e, ⟨a1, c1, e1, h1.below hb⟩, ⟨a2, c2, e2, h2.below hb⟩, hr⟩
theorem PArg.below {w w' : World} {v : Value} {n : Nat} {x y : Int} (h : PArg w v n x y) (hb : Below w.heap.size w w') : PArg w' v n x y := by
  obtain ⟨n1, s1, n2, s2, e, h1, h2⟩ := h
  exact ⟨n1, s1, n2, s2, e, h1.below hb, h2.below hb⟩
theorem RIs.below {w w' : World} {lo : Nat} {v : Value} {n : Nat} {r : Rat} (h : RIs w lo v n r) (hb : Below w.heap.size w w') : RIs w' lo v n r := by
  obtain ⟨n1, a1, k1, c1, n2, a2, k2, c2, e, h1, h2⟩ := h
  exact ⟨n1, a1, k1, c1, n2, a2, k2, c2, e, h1.below hb, h2.below hb⟩
theorem RIs.mono {w : World} {lo lo' : Nat} {v : Value} {n n' : Nat} {r : Rat} (h : RIs w lo v n r) (hlo : lo' ≤ lo) (hn : n ≤ n') : RIs w lo' v n' r := by
  obtain ⟨n1, a1, k1, c1, n2, a2, k2, c2, e, h1, h2⟩ := h
  exact ⟨n1, a1, k1, c1, n2, a2, k2, c2, e, h1.mono hlo hn, h2.mono hlo hn⟩
theorem RIs.setCell {w : World} {lo : Nat} {v : Value} {n : Nat} {r : Rat} (h : RIs w lo v n r) {p : Addr} (hp : p.block < lo) (u : Value) : RIs (w.setCell p u) lo v n r := by
  obtain ⟨n1, a1, k1, c1, n2, a2, k2, c2, e, h1, h2⟩ := h
  exact ⟨n1, a1, k1, c1, n2, a2, k2, c2, e, h1.setCell hp u, h2.setCell hp u⟩
theorem RIs.parg {w : World} {lo : Nat} {v : Value} {n : Nat} {r : Rat} (h : RIs w lo v n r) : PArg w v n r.num (r.den : Int) := by
  obtain ⟨n1, a1, k1, c1, n2, a2, k2, c2, e, h1, h2⟩ := h
  exact ⟨n1, _, n2, _, e, h1.arg, h2.arg⟩
theorem PArg.mono {w : World} {v : Value} {n m : Nat} {x y : Int} (h : PArg w v n x y) (hm : n ≤ m) : PArg w v m x y := by
  obtain ⟨n1, s1, n2, s2, e, h1, h2⟩ := h
  exact ⟨n1, s1, n2, s2, e, h1.mono hm, h2.mono hm⟩
theorem RArg.mono {w : World} {v : Value} {n m : Nat} {r : Rat} (h : RArg w v n r) (hm : n ≤ m) : RArg w v m r := by
  obtain ⟨n1, s1, l1, n2, s2, l2, e, h1, h2, k1, k2, hr⟩ := h
  exact ⟨n1, s1, l1, n2, s2, l2, e, h1, h2, by omega, by omega, hr⟩
theorem RIs.arg {w : World} {lo : Nat} {v : Value} {n : Nat} {r : Rat} (h : RIs w lo v n r) : RArg w v n r := by
  obtain ⟨n1, a1, k1, c1, n2, a2, k2, c2, rfl, ⟨m1, b1, d1, l1, e1, s1, -, g1, y1, z1⟩, ⟨m2, b2, d2, l2, e2, s2, -, g2, y2, z2⟩⟩ := h
  simp only [Value.agg.injEq, Array.mk.injEq, List.cons.injEq, Value.bool.injEq, Value.slice.injEq, and_true] at e1 e2
  obtain ⟨rfl, rfl, rfl, rfl⟩ := e1
  obtain ⟨rfl, rfl, rfl, rfl⟩ := e2
  refine ⟨n1, _, l1, n2, _, l2, rfl, ⟨_, _, rfl, s1⟩, ⟨_, _, rfl, s2⟩, g1, g2, ?_⟩
  have hd := r.den_pos
  have hf : formB n1 l1 n2 l2 := by
    refine ⟨y1, y2, by omega, ?_⟩
    have := r.reduced
    unfold Nat.Coprime at this
    rw [z1, sgn_abs] at this
    have h3 : r.den = val l2 := by
      have := sgn_abs n2 (val l2)
      rw [← z2] at this
      simpa using this
    rwa [h3] at this
  have hp := ratMean_parts hf
  refine Rat.ext (by rw [hp.1, z1]) ?_
  have := hp.2
  omega
theorem ris_of_pair {w w0 : World} {lo n : Nat} {x y : Int} {e : Ending} (hy : y ≠ 0) (h : RTold lo n (x.tdiv (dv x y)) (y.tdiv (dv x y)) w0 e w) : ∃ v, e = .returned v ∧ RIs w lo v n (Rat.divInt x y) ∧ Below w0.heap.size w0 w := by
  obtain ⟨n1, a1, k1, c1, n2, a2, k2, c2, rfl, h1, h2, hb⟩ := h
  refine ⟨_, rfl, ⟨n1, a1, k1, c1, n2, a2, k2, c2, rfl, ?_, ?_⟩, hb⟩
  · rw [least_num x y hy]; exact h1
  · rw [least_den x y hy]; exact h2
/-- A quotient has been told. -/
def RSay (lo n : Nat) (r : Rat) (w : World) (e : Ending) (w' : World) : Prop :=
  ∃ n1 a1 k1 c1 n2 a2 k2 c2, e = .returned (.agg #[.bool n1, .slice a1 k1 c1, .bool n2, .slice a2 k2 c2]) ∧ RIs w' lo (.agg #[.bool n1, .slice a1 k1 c1, .bool n2, .slice a2 k2 c2]) n r ∧ Below w.heap.size w w'
theorem least_say (w : World) (u v : Value) (n m : Nat) (x y : Int) (hx : Arg w u n x) (hy : Arg w v m y) (hy0 : y ≠ 0) (hn : n ≤ 100000) (hm : m ≤ 100000) :
    Calls Try.prog 84 #[u, v] w (RSay w.heap.size (n + m) (Rat.divInt x y) w) := by
  refine (least_any w u v n m x y hx hy hy0 hn hm).mono ?_
  rintro e w' ⟨n1, a1, k1, c1, n2, a2, k2, c2, rfl, h1, h2, hb⟩
  refine ⟨n1, a1, k1, c1, n2, a2, k2, c2, rfl, ⟨n1, a1, k1, c1, n2, a2, k2, c2, rfl, ?_, ?_⟩, hb⟩
  · rw [least_num x y hy0]; exact h1
  · rw [least_den x y hy0]; exact h2
theorem ratOf_say (w : World) (z : Int) (h1 : -9223372036854775808 ≤ z) (h2 : z ≤ 9223372036854775807) :
    Calls Try.prog 41 #[.int .i64 z] w (RSay w.heap.size 2 (z : Rat) w) := by
  refine (ratOf_any w z h1 h2).mono ?_
  rintro e w' ⟨n1, a1, k1, c1, n2, a2, k2, c2, rfl, h1, h2, hb⟩
  exact ⟨n1, a1, k1, c1, n2, a2, k2, c2, rfl, ⟨n1, a1, k1, c1, n2, a2, k2, c2, rfl, h1, h2⟩, hb⟩

end Go.Proofs.Ytiicjfacekldnaa
