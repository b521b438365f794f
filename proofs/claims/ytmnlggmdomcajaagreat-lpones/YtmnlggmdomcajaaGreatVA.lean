/-
  Mathematics: sums of products, and how great they are; rows of quotients in the heap.
  Walks: dot, Dot.
  Rows of quotients that are made: blocks of quotients, stores into them; rows that are told.
  Walks: mapped over a row of quotients; Plus.
  Walks: Dot, Plus.
  Rows and tables that are handed in; how great they are: the statements' bounds.
  What is known from call to call, of quotients and rows of them; the document's example.
-/
import Derived.Test.YtmnlggmdomcajaaGreatG3a
import Derived.Test.YtmnlggmdomcajaaGreatRC
import Derived.Test.YtmnlggmdomcajaaGreatDA
import Derived.Test.YtmnlggmdomcajaaGreatEA

namespace Go.Proofs.YtmnlggmdomcajaaGreat
open Go.RowKit Lm
set_option linter.unusedSimpArgs false
set_option linter.unusedVariables false
set_option maxRecDepth 100000

/-- The sum of the products, place by place. -/
def dotR : List Rat → List Rat → Rat
  | a :: A, b :: B => a * b + dotR A B
  | _, _ => 0
theorem dotR_nil (B : List Rat) : dotR [] B = 0 := by cases B <;> rfl
theorem dotR_split (A B : List Rat) (k : Nat) (h : A.length = B.length) : dotR (A.take k) (B.take k) + dotR (A.drop k) (B.drop k) = dotR A B := by
  induction A generalizing B k with
  | nil => simp [dotR_nil, Rat.add_zero]
  | cons a A ih =>
    cases B with
    | nil => simp at h
    | cons b B =>
      cases k with
      | zero => simp [dotR_nil, Rat.zero_add]
      | succ k =>
        simp at h
        show a * b + dotR (A.take k) (B.take k) + dotR (A.drop k) (B.drop k) = a * b + dotR A B
        rw [Rat.add_assoc, ih B k h]
theorem dotR_one {A B : List Rat} (h : A.length = 1) (hB : B.length = 1) (h0 : 0 < A.length) (h1 : 0 < B.length) : dotR A B = A[0] * B[0] := by
  match A, B, h, hB with
  | [a], [b], _, _ => show a * b + 0 = a * b; rw [Rat.add_zero]
theorem dotR_snoc (A B : List Rat) (a b : Rat) (h : A.length = B.length) : dotR (A ++ [a]) (B ++ [b]) = dotR A B + a * b := by
  induction A generalizing B with
  | nil =>
    cases B with
    | nil => show a * b + 0 = 0 + a * b; grind
    | cons b B => simp at h
  | cons c A ih =>
    cases B with
    | nil => simp at h
    | cons d B =>
      simp at h
      show c * d + dotR (A ++ [a]) (B ++ [b]) = c * d + dotR A B + a * b
      rw [ih B h, Rat.add_assoc]
theorem dotR_take (A B : List Rat) (k : Nat) (hk : k < A.length) (h : A.length = B.length) : dotR (A.take (k + 1)) (B.take (k + 1)) = dotR (A.take k) (B.take k) + A[k] * B[k] := by
  rw [List.take_succ_eq_append_getElem hk, List.take_succ_eq_append_getElem (show k < B.length by omega)]
  exact dotR_snoc _ _ _ _ (by simp; omega)

/-- A bound for a sum of k. -/
def Bd (M k : Nat) (r : Rat) : Prop := r.num.natAbs ≤ k * M ^ k ∧ r.den ≤ M ^ k
theorem Bd.zero (M : Nat) : Bd M 0 0 := by simp [Bd]
theorem Bd.add {M k j : Nat} {r s : Rat} (h1 : Bd M k r) (h2 : Bd M j s) : Bd M (k + j) (r + s) := by
  have hp : (0 : Int) < r.den * s.den := Int.mul_pos (by have := r.den_pos; omega) (by have := s.den_pos; omega)
  have e := add_rat r s
  have q1 := divInt_num_le (r.num * s.den + s.num * r.den) (r.den * s.den) hp
  have q2 := divInt_den_le (r.num * s.den + s.num * r.den) (r.den * s.den) hp
  rw [e] at q1 q2
  obtain ⟨a1, a2⟩ := h1
  obtain ⟨b1, b2⟩ := h2
  constructor
  · have q3 := Int.natAbs_add_le (r.num * s.den) (s.num * r.den)
    rw [Int.natAbs_mul, Int.natAbs_mul] at q3
    simp only [Int.natAbs_natCast] at q3
    have q4 := Nat.mul_le_mul a1 b2
    have q5 := Nat.mul_le_mul b1 a2
    have q6 : k * M ^ k * M ^ j + j * M ^ j * M ^ k = (k + j) * M ^ (k + j) := by rw [Nat.pow_add]; grind
    omega
  · have q3 : r.den * s.den ≤ M ^ (k + j) := by rw [Nat.pow_add]; exact Nat.mul_le_mul a2 b2
    have q4 : (((r + s).den : Nat) : Int) ≤ ((r.den * s.den : Nat) : Int) := by simpa using q2
    omega
theorem Bd.mul {k j : Nat} {r s : Rat} (h1 : r.num.natAbs < pw k ∧ r.den < pw k) (h2 : s.num.natAbs < pw j ∧ s.den < pw j) : Bd (pw (k + j)) 1 (r * s) := by
  have hp : (0 : Int) < r.den * s.den := Int.mul_pos (by have := r.den_pos; omega) (by have := s.den_pos; omega)
  have e := mul_rat r s
  have q1 := divInt_num_le (r.num * s.num) (r.den * s.den) hp
  have q2 := divInt_den_le (r.num * s.num) (r.den * s.den) hp
  rw [e] at q1 q2
  have q0 : pw (k + j) = pw k * pw j := by rw [pw_num, pw_num, pw_num, ← Nat.pow_add]; congr 1; omega
  unfold Bd
  rw [Nat.one_mul, Nat.pow_one, q0]
  constructor
  · rw [Int.natAbs_mul] at q1
    have := Nat.mul_le_mul (Nat.le_of_lt h1.1) (Nat.le_of_lt h2.1)
    omega
  · have q3 := Nat.mul_le_mul (Nat.le_of_lt h1.2) (Nat.le_of_lt h2.2)
    have q4 : (((r * s).den : Nat) : Int) ≤ ((r.den * s.den : Nat) : Int) := by simpa using q2
    omega
theorem pw_pow (p k : Nat) : pw p ^ k = pw (p * k) := by rw [pw_num, pw_num, ← Nat.pow_mul, Nat.mul_assoc]
theorem Bd.size {p k : Nat} {r : Rat} (h : Bd (pw p) k r) (hk : k < 4294967296) : r.num.natAbs < pw (p * k + 1) ∧ r.den < pw (p * k + 1) := by
  unfold Bd at h
  rw [pw_pow] at h
  have e : pw (p * k + 1) = 4294967296 * pw (p * k) := rfl
  have h0 : 0 < pw (p * k) := by rw [pw_num]; exact Nat.pow_pos (by omega)
  obtain ⟨h1, h2⟩ := h
  constructor
  · have : k * pw (p * k) < 4294967296 * pw (p * k) := Nat.mul_lt_mul_of_pos_right hk h0
    omega
  · omega
/-- A number of at most n limbs. -/
def Sz (n : Nat) (r : Rat) : Prop := r.num.natAbs < pw n ∧ r.den < pw n
theorem Sz.mono {n m : Nat} {r : Rat} (h : Sz n r) (hm : n ≤ m) : Sz m r := by
  have := pw_mono hm
  exact ⟨by have := h.1; omega, by have := h.2; omega⟩
theorem dotR_bd {n m : Nat} (A B : List Rat) (h : A.length = B.length) (hA : ∀ r ∈ A, Sz n r) (hB : ∀ r ∈ B, Sz m r) : Bd (pw (n + m)) A.length (dotR A B) := by
  induction A generalizing B with
  | nil => rw [dotR_nil]; exact Bd.zero _
  | cons a A ih =>
    cases B with
    | nil => simp at h
    | cons b B =>
      simp at h
      have q1 := Bd.mul (hA a (List.Mem.head _)) (hB b (List.Mem.head _))
      have q2 := ih B h (fun r hr => hA r (List.Mem.tail _ hr)) (fun r hr => hB r (List.Mem.tail _ hr))
      have q3 := q1.add q2
      rw [show (a :: A).length = 1 + A.length by simp; omega]
      exact q3
theorem dotR_sz {n m : Nat} (A B : List Rat) (h : A.length = B.length) (hk : A.length < 4294967296) (hA : ∀ r ∈ A, Sz n r) (hB : ∀ r ∈ B, Sz m r) : Sz ((n + m) * A.length + 1) (dotR A B) := (dotR_bd A B h hA hB).size hk

/-- A quotient in the heap, that may be handed in. -/
def RatAt (w : World) (b o n : Nat) (r : Rat) : Prop := ∃ n1 a1 k1 c1 n2 a2 k2 c2, w.cell? ⟨b, o, none⟩ = some (.bool n1) ∧ w.cell? ⟨b, o + 1, none⟩ = some (.slice a1 k1 c1) ∧ w.cell? ⟨b, o + 2, none⟩ = some (.bool n2) ∧ w.cell? ⟨b, o + 3, none⟩ = some (.slice a2 k2 c2) ∧ RArg w (.agg #[.bool n1, .slice a1 k1 c1, .bool n2, .slice a2 k2 c2]) n r
/-- A row of quotients: address and room of a slice. -/
def QAt (w : World) (ao : Option Addr) (cap n : Nat) (R : List Rat) : Prop :=
  R.length ≤ cap ∧ cap ≤ maxLen ∧ (R.length = 0 ∨ ∃ b off, ao = some ⟨b, off, none⟩ ∧ b < w.heap.size ∧ ∀ i (h : i < R.length), RatAt w b (off + i * 4) n R[i])
/-- The value is a row. -/
def QSl (w : World) (v : Value) (n : Nat) (R : List Rat) : Prop := ∃ ao k cap, v = .slice ao k cap ∧ k = R.length ∧ QAt w ao cap n R

theorem bcells {w w' : World} (hb : Below w.heap.size w w') (b o : Nat) (h : b < w.heap.size) : w'.cell? ⟨b, o, none⟩ = w.cell? ⟨b, o, none⟩ := (bcell hb).1 b o h
theorem RatAt.below {w w' : World} {b o n : Nat} {r : Rat} (h : RatAt w b o n r) (hl : b < w.heap.size) (hb : Below w.heap.size w w') : RatAt w' b o n r := by
  obtain ⟨n1, a1, k1, c1, n2, a2, k2, c2, h1, h2, h3, h4, h5⟩ := h
  exact ⟨n1, a1, k1, c1, n2, a2, k2, c2, (bcells hb _ _ hl).trans h1, (bcells hb _ _ hl).trans h2, (bcells hb _ _ hl).trans h3, (bcells hb _ _ hl).trans h4, h5.below hb⟩
theorem RatAt.mono {w : World} {b o n m : Nat} {r : Rat} (h : RatAt w b o n r) (hm : n ≤ m) : RatAt w b o m r := by
  obtain ⟨n1, a1, k1, c1, n2, a2, k2, c2, h1, h2, h3, h4, h5⟩ := h
  exact ⟨n1, a1, k1, c1, n2, a2, k2, c2, h1, h2, h3, h4, h5.mono hm⟩
theorem QAt.below {w w' : World} {ao : Option Addr} {cap n : Nat} {R : List Rat} (h : QAt w ao cap n R) (hb : Below w.heap.size w w') : QAt w' ao cap n R := by
  obtain ⟨h1, h2, h3⟩ := h
  refine ⟨h1, h2, ?_⟩
  rcases h3 with h3 | ⟨b, off, e, hlt, hc⟩
  · exact .inl h3
  · exact .inr ⟨b, off, e, Nat.lt_of_lt_of_le hlt hb.size, fun i hi => (hc i hi).below hlt hb⟩
theorem QAt.mono {w : World} {ao : Option Addr} {cap n m : Nat} {R : List Rat} (h : QAt w ao cap n R) (hm : n ≤ m) : QAt w ao cap m R := by
  obtain ⟨h1, h2, h3⟩ := h
  refine ⟨h1, h2, ?_⟩
  rcases h3 with h3 | ⟨b, off, e, hlt, hc⟩
  · exact .inl h3
  · exact .inr ⟨b, off, e, hlt, fun i hi => (hc i hi).mono hm⟩
theorem QSl.below {w w' : World} {v : Value} {n : Nat} {R : List Rat} (h : QSl w v n R) (hb : Below w.heap.size w w') : QSl w' v n R := by
  obtain ⟨ao, k, cap, e, hk, h⟩ := h
  exact ⟨ao, k, cap, e, hk, h.below hb⟩
theorem QSl.mono {w : World} {v : Value} {n m : Nat} {R : List Rat} (h : QSl w v n R) (hm : n ≤ m) : QSl w v m R := by
  obtain ⟨ao, k, cap, e, hk, h⟩ := h
  exact ⟨ao, k, cap, e, hk, h.mono hm⟩
theorem QAt.at {w : World} {b off cap n : Nat} {R : List Rat} (h : QAt w (some ⟨b, off, none⟩) cap n R) (i : Nat) (hi : i < R.length) : RatAt w b (off + i * 4) n R[i] ∧ b < w.heap.size := by
  obtain ⟨h1, h2, h3⟩ := h
  rcases h3 with h3 | ⟨b', off', e, hlt, hc⟩
  · omega
  · simp only [Option.some.injEq, Addr.mk.injEq, and_true] at e
    obtain ⟨rfl, rfl⟩ := e
    exact ⟨hc i hi, hlt⟩
theorem QAt.spot {w : World} {ao : Option Addr} {cap n : Nat} {R : List Rat} (h : QAt w ao cap n R) (h0 : 0 < R.length) : ∃ b off, ao = some ⟨b, off, none⟩ ∧ b < w.heap.size := by
  obtain ⟨h1, h2, h3⟩ := h
  rcases h3 with h3 | ⟨b', off', e, hlt, hc⟩
  · omega
  · exact ⟨b', off', e, hlt⟩
theorem RatAt.sz {w : World} {b o n : Nat} {r : Rat} (h : RatAt w b o n r) (hn : 1 ≤ n) : Sz n r := by
  obtain ⟨n1, a1, k1, c1, n2, a2, k2, c2, h1, h2, h3, h4, h5⟩ := h
  exact rarg_bound h5 hn
theorem QAt.sz {w : World} {ao : Option Addr} {cap n : Nat} {R : List Rat} (h : QAt w ao cap n R) (hn : 1 ≤ n) : ∀ r ∈ R, Sz n r := by
  intro r hr
  obtain ⟨i, hi, rfl⟩ := List.getElem_of_mem hr
  obtain ⟨b, off, rfl, -⟩ := h.spot (by omega)
  exact (h.at i hi).1.sz hn
theorem QAt.take {w : World} {ao : Option Addr} {cap n : Nat} {R : List Rat} (h : QAt w ao cap n R) (k : Nat) : QAt w ao cap n (R.take k) := by
  obtain ⟨h1, h2, h3⟩ := h
  refine ⟨by simp; omega, h2, ?_⟩
  rcases h3 with h3 | ⟨b, off, e, hlt, hc⟩
  · exact .inl (by rw [List.length_take]; omega)
  · refine .inr ⟨b, off, e, hlt, fun i hi => ?_⟩
    simp at hi
    rw [List.getElem_take]
    exact hc i (by omega)
theorem QAt.drop {w : World} {b off cap n : Nat} {R : List Rat} (h : QAt w (some ⟨b, off, none⟩) cap n R) (k : Nat) (hk : k ≤ R.length) : QAt w (some ⟨b, off + k * 4, none⟩) (cap - k) n (R.drop k) := by
  have hh := h
  obtain ⟨h1, h2, h3⟩ := h
  refine ⟨by simp; omega, by omega, ?_⟩
  rcases h3 with h3 | ⟨b', off', e, hlt, hc⟩
  · exact .inl (by rw [List.length_drop]; omega)
  · simp only [Option.some.injEq, Addr.mk.injEq, and_true] at e
    obtain ⟨rfl, rfl⟩ := e
    refine .inr ⟨b, off + k * 4, rfl, hlt, fun i hi => ?_⟩
    simp at hi
    rw [List.getElem_drop, show off + k * 4 + i * 4 = off + (k + i) * 4 by omega]
    exact hc (k + i) (by omega)

end Go.Proofs.YtmnlggmdomcajaaGreat

namespace Go.Proofs.YtmnlggmdomcajaaGreat
open Go.RowKit Lm
set_option linter.unusedSimpArgs false
set_option linter.unusedVariables false
set_option maxRecDepth 100000

/-- Four cells beside each other. -/
def At4 (w : World) (b o : Nat) (p q r s : Value) : Prop := w.cell? ⟨b, o, none⟩ = some p ∧ w.cell? ⟨b, o + 1, none⟩ = some q ∧ w.cell? ⟨b, o + 2, none⟩ = some r ∧ w.cell? ⟨b, o + 3, none⟩ = some s
theorem At4.below {w W : World} {b o : Nat} {p q r s : Value} (h : At4 w b o p q r s) (hl : b < w.heap.size) (hb : Below w.heap.size w W) : At4 W b o p q r s :=
  ⟨(bcells hb _ _ hl).trans h.1, (bcells hb _ _ hl).trans h.2.1, (bcells hb _ _ hl).trans h.2.2.1, (bcells hb _ _ hl).trans h.2.2.2⟩
theorem keepAA {w W : World} {b o b' o' : Nat} {p q r s p' q' r' s' : Value} (h : At4 w b o p q r s) (hl : b < w.heap.size) (h' : At4 w b' o' p' q' r' s') (hl' : b' < w.heap.size) (hb : Below w.heap.size w W) :
    W.cell? ⟨b, o, none⟩ = some p ∧ W.cell? ⟨b, o + 1, none⟩ = some q ∧ W.cell? ⟨b, o + 2, none⟩ = some r ∧ W.cell? ⟨b, o + 3, none⟩ = some s ∧ W.cell? ⟨b', o', none⟩ = some p' ∧ W.cell? ⟨b', o' + 1, none⟩ = some q' ∧ W.cell? ⟨b', o' + 2, none⟩ = some r' ∧ W.cell? ⟨b', o' + 3, none⟩ = some s' := by
  obtain ⟨h1, h2, h3, h4⟩ := h.below hl hb
  obtain ⟨h5, h6, h7, h8⟩ := h'.below hl' hb
  exact ⟨h1, h2, h3, h4, h5, h6, h7, h8⟩

theorem RSay.tight {lo n k : Nat} {r : Rat} {w w' : World} {e : Ending} (h : RSay lo n r w e w') (hk : Sz k r) : RSay lo k r w e w' := by
  obtain ⟨n1, a1, k1, c1, n2, a2, k2, c2, e, hI, hb⟩ := h
  exact ⟨n1, a1, k1, c1, n2, a2, k2, c2, e, hI.tight hk.1 hk.2, hb⟩
theorem RIs.sz {w : World} {lo n : Nat} {v : Value} {r : Rat} (h : RIs w lo v n r) (hn : 1 ≤ n) : Sz n r := rarg_bound h.arg hn
theorem half_le {p k : Nat} (hk : 2 ≤ k) (h : p * k ≤ 14000) : p * (k / 2) + 1 ≤ 10000 ∧ p * (k - k / 2) + 1 ≤ 10000 ∧ p * (k / 2) ≤ 14000 ∧ p * (k - k / 2) ≤ 14000 := by
  have h1 : 3 * (k / 2) ≤ 2 * k := by omega
  have h2 : 3 * (k - k / 2) ≤ 2 * k := by omega
  have q1 := Nat.mul_le_mul_left p h1
  have q2 := Nat.mul_le_mul_left p h2
  have e1 : p * (3 * (k / 2)) = 3 * (p * (k / 2)) := by grind
  have e2 : p * (3 * (k - k / 2)) = 3 * (p * (k - k / 2)) := by grind
  have e3 : p * (2 * k) = 2 * (p * k) := by grind
  omega
theorem quo2 (k : Nat) : ((k : Int)).tdiv 2 = ((k / 2 : Nat) : Int) := by
  rw [Int.tdiv_eq_ediv_of_nonneg (by omega)]; omega

set_option maxHeartbeats 6400000 in
theorem dot_any : ∀ (k : Nat) (w : World) (u v : Value) (n m : Nat) (A B : List Rat), A.length = k → B.length = k → QSl w u n A → QSl w v m B → 1 ≤ n → 1 ≤ m → (n + m) * k ≤ 14000 →
    Calls Tryz.prog 139 #[u, v] w (RSay 0 ((n + m) * k + 1) (dotR A B) w) := by
  intro k
  induction k using Nat.strongRecOn with
  | ind k ih =>
  intro w u v n m A B hA hB hu hv hn hm hk
  obtain ⟨ao, ka, ca, rfl, hka, hra⟩ := hu
  obtain ⟨bo, kb, cb, rfl, hkb, hrb⟩ := hv
  rw [hA] at hka
  rw [hB] at hkb
  replace hka := hka.symm
  replace hkb := hkb.symm
  subst hka hkb
  have hk64 : k ≤ 9223372036854775807 := by have := hra.1; have := hra.2.1; unfold maxLen at this; omega
  have HZ : Hid (Sz ((n + m) * k + 1) (dotR A B)) := hid (by
    have := dotR_sz A B (by omega) (by rw [hA]; have := Nat.mul_le_mul_right k (show 1 ≤ n + m by omega); omega) (hra.sz hn) (hrb.sz hm)
    rwa [hA] at this)
  have HI := hid ih
  have HA := hid hra
  have HB := hid hrb
  have hW0 : Below w.heap.size w (w.alloc (.cells #[.bool false, .slice none 0 0, .bool false, .slice none 0 0] 26)) := (by repeat (first | exact Below.refl _ _ | refine Below.alloc ?_ ?_ _ | refine Below.setCell ?_ ?_ _ | refine Below.drew ?_ | refine below_drewN ?_ _ | (· simp) | omega | (· simp; omega) | exact Below.size (by assumption) | assumption | refine below_call ?_ (by assumption) ?_))
  have bR : Box4 (w.alloc (.cells #[.bool false, .slice none 0 0, .bool false, .slice none 0 0] 26)) w.heap.size (.bool false) (.slice none 0 0) (.bool false) (.slice none 0 0) := Box4.new _ _ _ _ _ _ rfl
  clear ih hra hrb
  have HK := hid hk
  clear hk
  go_enter Tryz.func139, Tryz.ntmps139
  rcases (show k = 0 ∨ k = 1 ∨ 2 ≤ k by omega) with h0 | h1 | h2
  · have HL : Hid (dotR A B = 0) := hid (by rw [List.eq_nil_of_length_eq_zero (hA.trans h0), dotR_nil])
    clear hA hB
    subst h0
    go_wp2_with fail
    generalize w.alloc (.cells #[.bool false, .slice none 0 0, .bool false, .slice none 0 0] 26) = W0 at *
    refine (ratOf_say _ 0 (by omega) (by omega)).mono ?_
    rintro e w1 ⟨nr, ar, kr, cr, nt, at', kt, ct, rfl, hI, hb⟩
    have hW1 := below_call hW0 hb hW0.size
    replace bR := bR.keep hb
    have HS := hid ((hI.mono (Nat.zero_le _) (Nat.le_refl _)).off4 bR (grow4 w1 w.heap.size (.bool nr) (.slice ar kr cr) (.bool nt) (.slice at' kt ct)))
    have HB2 := hid (below_fill4 hW1 (Nat.le_refl _) (.bool nr) (.slice ar kr cr) (.bool nt) (.slice at' kt ct))
    obtain ⟨r0, r1, r2, r3⟩ := bR.c
    have rf := bR.f
    have rl := bR.lt
    clear hb hI bR
    go_wp2
    refine bodyPost_ret (v := .agg #[.bool nr, .slice ar kr cr, .bool nt, .slice at' kt ct]) ?_ rfl (RSay.tight ⟨nr, ar, kr, cr, nt, at', kt, ct, rfl, by rw [HL.out]; exact HS.out, HB2.out⟩ HZ.out)
    simp [results, Tryz.results139, go_sem, r0, r1, r2, r3]
  · subst h1
    have HL : Hid (dotR A B = A[0] * B[0]) := hid (dotR_one hA hB (by omega) (by omega))
    obtain ⟨b1, o1, rfl, l1⟩ := HA.out.spot (by omega)
    obtain ⟨b2, o2, rfl, l2⟩ := HB.out.spot (by omega)
    obtain ⟨n1, a1, k1, c1, n2, a2, k2, c2, p1, p2, p3, p4, pA⟩ := (HA.out.at 0 (by omega)).1
    obtain ⟨n3, a3, k3, c3, n4, a4, k4, c4, q1, q2, q3, q4, pB⟩ := (HB.out.at 0 (by omega)).1
    have hC1 : At4 w b1 o1 (.bool n1) (.slice a1 k1 c1) (.bool n2) (.slice a2 k2 c2) := by simp only [Nat.zero_mul, Nat.add_zero] at p1 p2 p3 p4; exact ⟨p1, p2, p3, p4⟩
    have hC2 : At4 w b2 o2 (.bool n3) (.slice a3 k3 c3) (.bool n4) (.slice a4 k4 c4) := by simp only [Nat.zero_mul, Nat.add_zero] at q1 q2 q3 q4; exact ⟨q1, q2, q3, q4⟩
    have HX := hid pA
    have HY := hid pB
    clear p1 p2 p3 p4 q1 q2 q3 q4 pA pB HA HB
    have hsz : n ≤ 14000 ∧ m ≤ 14000 := by have := HK.out; omega
    generalize A[0] = x at *
    generalize B[0] = y at *
    go_wp2
    have HBW : Below w.heap.size w (w.alloc (.cells #[.bool false, .slice none 0 0, .bool false, .slice none 0 0] 26)).drew := hW0.drew
    have bR' : Box4 (w.alloc (.cells #[.bool false, .slice none 0 0, .bool false, .slice none 0 0] 26)).drew w.heap.size (.bool false) (.slice none 0 0) (.bool false) (.slice none 0 0) := bR
    go_region_held3 (fun W' => W'.cell? ⟨b1, o1, none⟩ = some (.bool n1) ∧ W'.cell? ⟨b1, o1 + 1, none⟩ = some (.slice a1 k1 c1) ∧ W'.cell? ⟨b1, o1 + 2, none⟩ = some (.bool n2) ∧ W'.cell? ⟨b1, o1 + 3, none⟩ = some (.slice a2 k2 c2) ∧ W'.cell? ⟨b2, o2, none⟩ = some (.bool n3) ∧ W'.cell? ⟨b2, o2 + 1, none⟩ = some (.slice a3 k3 c3) ∧ W'.cell? ⟨b2, o2 + 2, none⟩ = some (.bool n4) ∧ W'.cell? ⟨b2, o2 + 3, none⟩ = some (.slice a4 k4 c4)) (first | exact keepAA hC1 l1 hC2 l2 HBW | exact keepAA hC1 l1 hC2 l2 (below_fill4 HBW (Nat.le_refl _) _ _ _ _)) (first
      | (go_at_call 156; go_must (refine (ratMul_any _ _ _ n m x y (HX.out.below HBW) (HY.out.below HBW) (by omega) (by omega)).mono ?_); rintro e w1 ⟨nr, ar, kr, cr, nt, at', kt, ct, rfl, hI, hb⟩; have HBn := below_call HBW hb HBW.size; have bRn := bR'.keep hb; clear HBW bR' hb; have HBW := HBn; have bR' := bRn; clear HBn bRn; (try clear z0 z1 z2 z3 zf zl); obtain ⟨z0, z1, z2, z3⟩ := bR'.c; have zf := bR'.f; have zl := bR'.lt))
    have HS := hid ((hI.mono (Nat.zero_le _) (Nat.le_refl _)).off4 bR' (grow4 w1 w.heap.size (.bool nr) (.slice ar kr cr) (.bool nt) (.slice at' kt ct)))
    have HB2 := hid (below_fill4 HBW (Nat.le_refl _) (.bool nr) (.slice ar kr cr) (.bool nt) (.slice at' kt ct))
    clear hI bR' HBW
    go_wp2
    refine bodyPost_ret (v := .agg #[.bool nr, .slice ar kr cr, .bool nt, .slice at' kt ct]) ?_ rfl (RSay.tight ⟨nr, ar, kr, cr, nt, at', kt, ct, rfl, by rw [HL.out]; exact HS.out, HB2.out⟩ HZ.out)
    simp [results, Tryz.results139, go_sem, z0, z1, z2, z3]
  · obtain ⟨b1, o1, rfl, l1⟩ := HA.out.spot (by omega)
    obtain ⟨b2, o2, rfl, l2⟩ := HB.out.spot (by omega)
    obtain ⟨hs1, hs2, hs3, hs4⟩ := half_le h2 HK.out
    obtain ⟨h, hh⟩ : ∃ h, h = k / 2 := ⟨_, rfl⟩
    have hq : ((k : Int)).tdiv 2 = (h : Int) := by rw [hh]; exact quo2 k
    rw [← hh] at hs1 hs2 hs3 hs4
    have hcA := HA.out.1
    have hcB := HB.out.1
    have hcA2 := HA.out.2.1
    have hcB2 := HB.out.2.1
    unfold maxLen at hcA2 hcB2
    rw [hA] at hcA
    rw [hB] at hcB
    have hhk : h ≤ k := by omega
    have hhk1 : h < k ∧ k - h < k := by omega
    have HHH := hid hh
    clear hh
    have HL1 : Hid ((A.take h).length = h) := hid (by rw [List.length_take]; omega)
    have HL2 : Hid ((B.take h).length = h) := hid (by rw [List.length_take]; omega)
    have HL3 : Hid ((A.drop h).length = k - h) := hid (by rw [List.length_drop]; omega)
    have HL4 : Hid ((B.drop h).length = k - h) := hid (by rw [List.length_drop]; omega)
    have HL : Hid (dotR (A.take h) (B.take h) + dotR (A.drop h) (B.drop h) = dotR A B) := hid (dotR_split A B h (by omega))
    have HA1 := hid (HA.out.take h)
    have HB1 := hid (HB.out.take h)
    have HA2 := hid (HA.out.drop h (by omega))
    have HB2 := hid (HB.out.drop h (by omega))
    generalize dotR A B = D at *
    generalize A.take h = A1 at *
    generalize B.take h = B1 at *
    generalize A.drop h = A2 at *
    generalize B.drop h = B2 at *
    clear HA HB hA hB HHH
    have f1 : h ≤ ca := by omega
    have f2 : h ≤ cb := by omega
    have f3 : ¬ ca = h := by omega
    have f4 : ¬ cb = h := by omega
    have f5 : (h : Int) ≤ (ca : Int) := by omega
    have f6 : (h : Int) ≤ (cb : Int) := by omega
    have f7 : (h : Int) ≤ (k : Int) := by omega
    go_wp2
    have HBW : Below w.heap.size w (w.alloc (.cells #[.bool false, .slice none 0 0, .bool false, .slice none 0 0] 26)).drew := hW0.drew
    have bR' : Box4 (w.alloc (.cells #[.bool false, .slice none 0 0, .bool false, .slice none 0 0] 26)).drew w.heap.size (.bool false) (.slice none 0 0) (.bool false) (.slice none 0 0) := bR
    go_region_held3 (fun _ => True) (exact trivial) (first
      | (go_at_call_of 139 (Value.slice (some ⟨b1, o1, none⟩) h ca); go_must (refine (HI.out h hhk1.1 _ _ _ n m A1 B1 HL1.out HL2.out ⟨_, _, _, rfl, HL1.out.symm, HA1.out.below HBW⟩ ⟨_, _, _, rfl, HL2.out.symm, HB1.out.below HBW⟩ hn hm hs3).mono ?_); rintro e w1 ⟨n1, a1, k1, c1, n2, a2, k2, c2, rfl, hI1, hb⟩; have HBn := below_call HBW hb HBW.size; have bRn := bR'.keep hb; clear HBW bR' hb; have HBW := HBn; have bR' := bRn; clear HBn bRn; (try clear z0 z1 z2 z3 zf zl); obtain ⟨z0, z1, z2, z3⟩ := bR'.c; have zf := bR'.f; have zl := bR'.lt)
      | (go_at_call_of 139 (Value.slice (some ⟨b1, o1 + h * 4, none⟩) (k - h) (ca - h)); go_must (refine (HI.out (k - h) hhk1.2 _ _ _ n m A2 B2 HL3.out HL4.out ⟨_, _, _, rfl, HL3.out.symm, HA2.out.below HBW⟩ ⟨_, _, _, rfl, HL4.out.symm, HB2.out.below HBW⟩ hn hm hs4).mono ?_); rintro e w2 ⟨n3, a3, k3, c3, n4, a4, k4, c4, rfl, hI2, hb⟩; have hIn := hI1.below hb; clear hI1; have hI1 := hIn; clear hIn; have HBn := below_call HBW hb HBW.size; have bRn := bR'.keep hb; clear HBW bR' hb; have HBW := HBn; have bR' := bRn; clear HBn bRn; (try clear z0 z1 z2 z3 zf zl); obtain ⟨z0, z1, z2, z3⟩ := bR'.c; have zf := bR'.f; have zl := bR'.lt)
      | (go_at_call 52; go_must (refine (ratAdd_any _ _ _ _ _ _ _ hI1.arg hI2.arg hs1 hs2).mono ?_); rintro e w3 ⟨nr, ar, kr, cr, nt, at', kt, ct, rfl, hI, hb⟩; have HBn := below_call HBW hb HBW.size; have bRn := bR'.keep hb; clear HBW bR' hb; have HBW := HBn; have bR' := bRn; clear HBn bRn; (try clear z0 z1 z2 z3 zf zl); obtain ⟨z0, z1, z2, z3⟩ := bR'.c; have zf := bR'.f; have zl := bR'.lt))
    have HS := hid ((hI.mono (Nat.zero_le _) (Nat.le_refl _)).off4 bR' (grow4 w3 w.heap.size (.bool nr) (.slice ar kr cr) (.bool nt) (.slice at' kt ct)))
    have HB3 := hid (below_fill4 HBW (Nat.le_refl _) (.bool nr) (.slice ar kr cr) (.bool nt) (.slice at' kt ct))
    clear hI hI1 hI2 bR' HBW
    go_wp2
    refine bodyPost_ret (v := .agg #[.bool nr, .slice ar kr cr, .bool nt, .slice at' kt ct]) ?_ rfl (RSay.tight ⟨nr, ar, kr, cr, nt, at', kt, ct, rfl, by rw [← HL.out]; exact HS.out, HB3.out⟩ HZ.out)
    simp [results, Tryz.results139, go_sem, z0, z1, z2, z3]

end Go.Proofs.YtmnlggmdomcajaaGreat

namespace Go.Proofs.YtmnlggmdomcajaaGreat
open Go.RowKit Lm
set_option linter.unusedSimpArgs false
set_option linter.unusedVariables false
set_option maxRecDepth 100000

/-- No limbs lie in the block. -/
def NoLimb (W : World) (g : Nat) : Prop := ∀ j z, W.cell? ⟨g, j, none⟩ ≠ some (.int .u32 z)
theorem SlAt.offL {W W' : World} {ao : Option Addr} {cap g : Nat} {l : List Nat} (h : SlAt W ao cap l) (hg : NoLimb W g) (hW : W.grownBy W' (some g)) : SlAt W' ao cap l := by
  by_cases h0 : l.length = 0
  · obtain ⟨h1, h2, h3, h4⟩ := h
    refine ⟨h1, h2, h3, ?_⟩
    rcases h4 with h4 | ⟨b', off, e, hlt, hc⟩
    · exact .inl h4
    · exact .inl ⟨h0, fun h => by rw [e] at h; simp at h⟩
  · refine slAt_grow h hW ?_
    rintro ad rfl hb
    obtain ⟨-, -, -, h4⟩ := h
    rcases h4 with h4 | ⟨b', off, e, hlt, hc⟩
    · exact h0 h4.1
    · simp only [Option.some.injEq] at e
      subst e
      simp only at hb
      subst hb
      exact hg _ _ (hc 0 (by omega))
theorem Is.offL {W W' : World} {lo g n : Nat} {v : Value} {x : Int} (h : Is W lo v n x) (hg : NoLimb W g) (hW : W.grownBy W' (some g)) : Is W' lo v n x := by
  obtain ⟨neg, ao, cap, l, hv, hs, hf, hl, hm, hz⟩ := h
  exact ⟨neg, ao, cap, l, hv, hs.offL hg hW, hf, hl, hm, hz⟩
theorem RIs.offL {W W' : World} {lo g n : Nat} {v : Value} {r : Rat} (h : RIs W lo v n r) (hg : NoLimb W g) (hW : W.grownBy W' (some g)) : RIs W' lo v n r := by
  obtain ⟨n1, a1, k1, c1, n2, a2, k2, c2, e, h1, h2⟩ := h
  exact ⟨n1, a1, k1, c1, n2, a2, k2, c2, e, h1.offL hg hW, h2.offL hg hW⟩
theorem RArg.offL {W W' : World} {g n : Nat} {v : Value} {r : Rat} (h : RArg W v n r) (hg : NoLimb W g) (hW : W.grownBy W' (some g)) : RArg W' v n r := by
  obtain ⟨n1, s1, l1, n2, s2, l2, e, ⟨a1, c1, e1, h1⟩, ⟨a2, c2, e2, h2⟩, hr⟩ := h
  exact ⟨n1, s1, l1, n2, s2, l2, e, ⟨a1, c1, e1, h1.offL hg hW⟩, ⟨a2, c2, e2, h2.offL hg hW⟩, hr⟩

/-- A block of k quotients. -/
def QBlk (W : World) (g k : Nat) : Prop := ∃ cs : Array Value, W.heap[g]? = some (.cells cs 26 (0, 0)) ∧ cs.size = k * 4 ∧ ∀ (j : Nat) (z : Int), cs[j]? ≠ some (Value.int .u32 z)
theorem QBlk.lt {W : World} {g k : Nat} (h : QBlk W g k) : g < W.heap.size := by
  obtain ⟨cs, h, -, -⟩ := h
  exact (Array.getElem?_eq_some_iff.1 h).1
theorem QBlk.no {W : World} {g k : Nat} (h : QBlk W g k) : NoLimb W g := by
  obtain ⟨cs, h, -, h2⟩ := h
  intro j z
  rw [cell_of_row W g j cs _ _ h]
  exact h2 j z
theorem QBlk.f {W : World} {g k : Nat} (h : QBlk W g k) (i : Nat) : W.frozen? ⟨g, i, none⟩ = false := by
  obtain ⟨cs, h, -, -⟩ := h
  exact frozen_of_row W g i cs _ h
theorem QBlk.keep {W W' : World} {g k : Nat} (h : QBlk W g k) (hb : Below W.heap.size W W') : QBlk W' g k := by
  have hl := h.lt
  obtain ⟨cs, h, h2⟩ := h
  exact ⟨cs, (hb.block g hl).trans h, h2⟩
theorem QBlk.alloc {W : World} {g k : Nat} (h : QBlk W g k) (o : Obj) : QBlk (W.alloc o) g k := h.keep ((Below.refl _ _).alloc (Nat.le_refl _) o)
theorem QBlk.has {W : World} {g k : Nat} (h : QBlk W g k) (j : Nat) (hj : j < k * 4) : ∃ u, W.cell? ⟨g, j, none⟩ = some u := by
  obtain ⟨cs, h, h2, -⟩ := h
  rw [cell_of_row W g j cs _ _ h, Array.getElem?_eq_getElem (by omega)]
  exact ⟨_, rfl⟩
theorem QBlk.set {W : World} {g k : Nat} (h : QBlk W g k) (i : Nat) (u : Value) (hu : ∀ z, u ≠ .int .u32 z) : QBlk (W.setCell ⟨g, i, none⟩ u) g k := by
  obtain ⟨cs, h, h2, h3⟩ := h
  refine ⟨_, heap_setCell_same W g i cs _ u h, by simpa using h2, fun j z => ?_⟩
  rw [Array.getElem?_setIfInBounds]
  split
  · split
    · simpa using hu z
    · simp
  · exact h3 j z
/-- Four cells of a block that are filled. -/
def fillAt (W : World) (g o : Nat) (p q r s : Value) : World := (((W.setCell ⟨g, o, none⟩ p).setCell ⟨g, o + 1, none⟩ q).setCell ⟨g, o + 2, none⟩ r).setCell ⟨g, o + 3, none⟩ s
theorem growAt (W : World) (g o : Nat) (p q r s : Value) : W.grownBy (fillAt W g o p q r s) (some g) := grow_set (grow_set (grow_set (grow_set (grow_refl _ _) _ _) _ _) _ _) _ _
theorem below_fillAt {B : Nat} {w W : World} {g : Nat} (h : Below B w W) (hg : B ≤ g) (o : Nat) (p q r s : Value) : Below B w (fillAt W g o p q r s) := (((h.setCell hg _).setCell hg _).setCell hg _).setCell hg _
theorem QBlk.fill {W : World} {g k : Nat} (h : QBlk W g k) (o : Nat) (n1 n2 : Bool) (a1 a2 : Option Addr) (k1 c1 k2 c2 : Nat) : QBlk (fillAt W g o (.bool n1) (.slice a1 k1 c1) (.bool n2) (.slice a2 k2 c2)) g k :=
  (((h.set _ _ (by simp)).set _ _ (by simp)).set _ _ (by simp)).set _ _ (by simp)
theorem set_far (W : World) (g i j : Nat) (u : Value) (h : i ≠ j) : (W.setCell ⟨g, i, none⟩ u).cell? ⟨g, j, none⟩ = W.cell? ⟨g, j, none⟩ := World.cell?_setCell_other W _ _ u (by simp [h])
theorem set_near {W : World} {g i : Nat} {v : Value} (u : Value) (h : W.cell? ⟨g, i, none⟩ = some v) : (W.setCell ⟨g, i, none⟩ u).cell? ⟨g, i, none⟩ = some u := World.cell?_setCell_same W _ u h
theorem At4.filled {W : World} {g k o : Nat} (h : QBlk W g k) (ho : o + 4 ≤ k * 4) (n1 n2 : Bool) (a1 a2 : Option Addr) (k1 c1 k2 c2 : Nat) : At4 (fillAt W g o (.bool n1) (.slice a1 k1 c1) (.bool n2) (.slice a2 k2 c2)) g o (.bool n1) (.slice a1 k1 c1) (.bool n2) (.slice a2 k2 c2) := by
  unfold fillAt
  obtain ⟨u0, e0⟩ := h.has o (by omega)
  have h1 := h.set o (.bool n1) (by simp)
  obtain ⟨u1, e1⟩ := h1.has (o + 1) (by omega)
  have h2 := h1.set (o + 1) (.slice a1 k1 c1) (by simp)
  obtain ⟨u2, e2⟩ := h2.has (o + 2) (by omega)
  have h3 := h2.set (o + 2) (.bool n2) (by simp)
  obtain ⟨u3, e3⟩ := h3.has (o + 3) (by omega)
  refine ⟨?_, ?_, ?_, ?_⟩
  · rw [set_far _ _ _ _ _ (by omega), set_far _ _ _ _ _ (by omega), set_far _ _ _ _ _ (by omega)]; exact set_near _ e0
  · rw [set_far _ _ _ _ _ (by omega), set_far _ _ _ _ _ (by omega)]; exact set_near _ e1
  · rw [set_far _ _ _ _ _ (by omega)]; exact set_near _ e2
  · exact set_near _ e3
theorem At4.beside {W : World} {g o o' : Nat} {p q r s : Value} (h : At4 W g o p q r s) (ho : o + 4 ≤ o' ∨ o' + 4 ≤ o) (p' q' r' s' : Value) : At4 (fillAt W g o' p' q' r' s') g o p q r s := by
  unfold fillAt
  obtain ⟨h1, h2, h3, h4⟩ := h
  refine ⟨?_, ?_, ?_, ?_⟩ <;> (rw [set_far _ _ _ _ _ (by omega), set_far _ _ _ _ _ (by omega), set_far _ _ _ _ _ (by omega), set_far _ _ _ _ _ (by omega)]; assumption)

/-- What is known of each quotient of a block. -/
structure Stays (G : Nat → World → Value → Prop) : Prop where
  below : ∀ i W W' v, G i W v → Below W.heap.size W W' → G i W' v
  off : ∀ i W W' g v, G i W v → NoLimb W g → W.grownBy W' (some g) → G i W' v
def QGot (G : Nat → World → Value → Prop) (W : World) (g j : Nat) : Prop := ∃ n1 a1 k1 c1 n2 a2 k2 c2, At4 W g (j * 4) (.bool n1) (.slice a1 k1 c1) (.bool n2) (.slice a2 k2 c2) ∧ G j W (.agg #[.bool n1, .slice a1 k1 c1, .bool n2, .slice a2 k2 c2])
theorem QGot.keep {G : Nat → World → Value → Prop} (S : Stays G) {W W' : World} {g j : Nat} (h : QGot G W g j) (hl : g < W.heap.size) (hb : Below W.heap.size W W') : QGot G W' g j := by
  obtain ⟨n1, a1, k1, c1, n2, a2, k2, c2, h1, h2⟩ := h
  exact ⟨n1, a1, k1, c1, n2, a2, k2, c2, h1.below hl hb, S.below _ _ _ _ h2 hb⟩
theorem QGot.fill {G : Nat → World → Value → Prop} (S : Stays G) {W : World} {g k i j : Nat} (h : QGot G W g j) (hB : QBlk W g k) (hij : j < i) (p q r s : Value) : QGot G (fillAt W g (i * 4) p q r s) g j := by
  obtain ⟨n1, a1, k1, c1, n2, a2, k2, c2, h1, h2⟩ := h
  exact ⟨n1, a1, k1, c1, n2, a2, k2, c2, h1.beside (by omega) _ _ _ _, S.off _ _ _ _ _ h2 hB.no (growAt _ _ _ _ _ _ _)⟩
theorem QGot.new {G : Nat → World → Value → Prop} (S : Stays G) {W : World} {g k i : Nat} (hB : QBlk W g k) (hi : i < k) {n1 n2 : Bool} {a1 a2 : Option Addr} {k1 c1 k2 c2 : Nat} (h : G i W (.agg #[.bool n1, .slice a1 k1 c1, .bool n2, .slice a2 k2 c2])) : QGot G (fillAt W g (i * 4) (.bool n1) (.slice a1 k1 c1) (.bool n2) (.slice a2 k2 c2)) g i :=
  ⟨n1, a1, k1, c1, n2, a2, k2, c2, At4.filled hB (by omega) _ _ _ _ _ _ _ _, S.off _ _ _ _ _ h hB.no (growAt _ _ _ _ _ _ _)⟩
def isG (n : Nat) (R : List Rat) : Nat → World → Value → Prop := fun i W v => ∀ h : i < R.length, RIs W 0 v n R[i]
theorem isG_stays (n : Nat) (R : List Rat) : Stays (isG n R) := ⟨fun i W W' v h hb hi => (h hi).below hb, fun i W W' g v h hg hW hi => (h hi).offL hg hW⟩
def argG (n : Nat) (R : List Rat) : Nat → World → Value → Prop := fun i W v => ∀ h : i < R.length, RArg W v n R[i]
theorem argG_stays (n : Nat) (R : List Rat) : Stays (argG n R) := ⟨fun i W W' v h hb hi => (h hi).below hb, fun i W W' g v h hg hW hi => (h hi).offL hg hW⟩

/-- A row that is told. -/
def QTold (G : Nat → World → Value → Prop) (k : Nat) (w : World) (e : Ending) (w' : World) : Prop := ∃ g, e = .returned (.slice (some ⟨g, 0, none⟩) k k) ∧ w.heap.size ≤ g ∧ QBlk w' g k ∧ (∀ j, j < k → QGot G w' g j) ∧ Below w.heap.size w w'
/-- A row of told quotients. -/
def QIs (w : World) (v : Value) (n : Nat) (R : List Rat) : Prop := ∃ ao k cap, v = .slice ao k cap ∧ k = R.length ∧ R.length ≤ cap ∧ cap ≤ maxLen ∧ (R.length = 0 ∨ ∃ b off, ao = some ⟨b, off, none⟩ ∧ b < w.heap.size ∧ ∀ i (h : i < R.length), ∃ n1 a1 k1 c1 n2 a2 k2 c2, At4 w b (off + i * 4) (.bool n1) (.slice a1 k1 c1) (.bool n2) (.slice a2 k2 c2) ∧ RIs w 0 (.agg #[.bool n1, .slice a1 k1 c1, .bool n2, .slice a2 k2 c2]) n R[i])
theorem QIs.below {w w' : World} {v : Value} {n : Nat} {R : List Rat} (h : QIs w v n R) (hb : Below w.heap.size w w') : QIs w' v n R := by
  obtain ⟨ao, k, cap, e, hk, h1, h2, h3⟩ := h
  refine ⟨ao, k, cap, e, hk, h1, h2, ?_⟩
  rcases h3 with h3 | ⟨b, off, e, hlt, hc⟩
  · exact .inl h3
  · refine .inr ⟨b, off, e, Nat.lt_of_lt_of_le hlt hb.size, fun i hi => ?_⟩
    obtain ⟨n1, a1, k1, c1, n2, a2, k2, c2, h4, h5⟩ := hc i hi
    exact ⟨n1, a1, k1, c1, n2, a2, k2, c2, h4.below hlt hb, h5.below hb⟩
theorem QIs.sl {w : World} {v : Value} {n : Nat} {R : List Rat} (h : QIs w v n R) : QSl w v n R := by
  obtain ⟨ao, k, cap, e, hk, h1, h2, h3⟩ := h
  refine ⟨ao, k, cap, e, hk, h1, h2, ?_⟩
  rcases h3 with h3 | ⟨b, off, e, hlt, hc⟩
  · exact .inl h3
  · refine .inr ⟨b, off, e, hlt, fun i hi => ?_⟩
    obtain ⟨n1, a1, k1, c1, n2, a2, k2, c2, ⟨h4, h5, h6, h7⟩, h8⟩ := hc i hi
    exact ⟨n1, a1, k1, c1, n2, a2, k2, c2, h4, h5, h6, h7, h8.arg⟩
theorem qIs_of {n k : Nat} {R : List Rat} {w w' : World} {e : Ending} (h : QTold (isG n R) k w e w') (hk : k = R.length) (hm : k ≤ maxLen) : ∃ v, e = .returned v ∧ QIs w' v n R ∧ Below w.heap.size w w' := by
  subst hk
  obtain ⟨g, rfl, h1, h2, h3, h4⟩ := h
  refine ⟨_, rfl, ⟨_, _, _, rfl, rfl, Nat.le_refl _, hm, .inr ⟨g, 0, rfl, h2.lt, fun i hi => ?_⟩⟩, h4⟩
  obtain ⟨n1, a1, k1, c1, n2, a2, k2, c2, h5, h6⟩ := h3 i hi
  exact ⟨n1, a1, k1, c1, n2, a2, k2, c2, by rw [Nat.zero_add]; exact h5, h6 hi⟩
theorem qSl_of {n k : Nat} {R : List Rat} {w w' : World} {e : Ending} (h : QTold (argG n R) k w e w') (hk : k = R.length) (hm : k ≤ maxLen) : ∃ v, e = .returned v ∧ QSl w' v n R ∧ Below w.heap.size w w' := by
  subst hk
  obtain ⟨g, rfl, h1, h2, h3, h4⟩ := h
  refine ⟨_, rfl, ⟨_, _, _, rfl, rfl, Nat.le_refl _, hm, .inr ⟨g, 0, rfl, h2.lt, fun i hi => ?_⟩⟩, h4⟩
  obtain ⟨n1, a1, k1, c1, n2, a2, k2, c2, ⟨h5, h6, h7, h8⟩, h9⟩ := h3 i hi
  rw [Nat.zero_add]
  exact ⟨n1, a1, k1, c1, n2, a2, k2, c2, h5, h6, h7, h8, h9 hi⟩
theorem made4 (W : World) (base k W0 : Nat) (h : W.ownsRow base 26 4 (.slice (some ⟨W0, 0, none⟩) k k) k (madeCells (Value.agg #[.bool false, .slice none 0 0, .bool false, .slice none 0 0]).cells (k * 4)).toList) : QBlk W W0 k := by
  have hl := h.1
  rcases h.2 with ⟨h', _⟩ | ⟨g', cap', cur, h', _, hg, _, _, hcs, htake⟩
  · simp at h'
  · simp only [Value.slice.injEq, Option.some.injEq, Addr.mk.injEq, and_true, true_and] at h'
    obtain ⟨rfl, rfl⟩ := h'
    refine ⟨cur, hg, hcs, fun j z => ?_⟩
    have e : cur = madeCells (Value.agg #[.bool false, .slice none 0 0, .bool false, .slice none 0 0]).cells (k * 4) := by
      rw [List.take_of_length_le (by rw [Array.length_toList]; omega)] at htake
      exact Array.toList_inj.1 htake
    rw [e]
    unfold madeCells
    rw [Array.getElem?_map]
    have hcells : (Value.agg #[.bool false, .slice none 0 0, .bool false, .slice none 0 0]).cells = #[.bool false, .slice none 0 0, .bool false, .slice none 0 0] := rfl
    rw [hcells]
    cases hq : (Array.range (k * 4))[j]? with
    | none => simp
    | some x =>
      simp only [Option.map_some, ne_eq, Option.some.injEq]
      have h4 : x % 4 = 0 ∨ x % 4 = 1 ∨ x % 4 = 2 ∨ x % 4 = 3 := by omega
      show ¬ (#[Value.bool false, Value.slice none 0 0, Value.bool false, Value.slice none 0 0][x % 4]! = _)
      rcases h4 with h4 | h4 | h4 | h4 <;> rw [h4] <;> simp

end Go.Proofs.YtmnlggmdomcajaaGreat

namespace Go.Proofs.YtmnlggmdomcajaaGreat
open Go.RowKit Lm
set_option linter.unusedSimpArgs false
set_option linter.unusedVariables false
set_option maxRecDepth 100000

theorem Tryz.infoRat : (Tryz.prog.info? 26).map (fun i => (i.zero, i.size, i.bytes)) = some (some (.agg #[.bool false, .slice none 0 0, .bool false, .slice none 0 0]), 4, 64) := by kernel_rfl

/-- A quotient of which something is known has been told. -/
def GSay (G : Nat → World → Value → Prop) (i : Nat) (w : World) (e : Ending) (w' : World) : Prop := ∃ n1 a1 k1 c1 n2 a2 k2 c2, e = .returned (.agg #[.bool n1, .slice a1 k1 c1, .bool n2, .slice a2 k2 c2]) ∧ G i w' (.agg #[.bool n1, .slice a1 k1 c1, .bool n2, .slice a2 k2 c2]) ∧ Below w.heap.size w w'
def MapRel (G : Nat → World → Value → Prop) (k : Nat) (w : World) (iv : Value) (wr : World) : Prop := ∃ i : Nat, i ≤ k ∧ iv = .int .i64 i ∧ QBlk wr w.heap.size k ∧ (∀ j, j < i → QGot G wr w.heap.size j) ∧ Below w.heap.size w wr

end Go.Proofs.YtmnlggmdomcajaaGreat

namespace Go.Proofs.YtmnlggmdomcajaaGreat
open Go.RowKit Lm
set_option linter.unusedSimpArgs false
set_option linter.unusedVariables false
set_option maxRecDepth 100000

/-- A box of one cell. -/
def BoxS (w : World) (g : Nat) (v : Value) : Prop := ∃ T, w.heap[g]? = some (.cells #[v] T (0, 0))
theorem BoxS.lt {w : World} {g : Nat} {v : Value} (h : BoxS w g v) : g < w.heap.size := by
  obtain ⟨T, h⟩ := h
  exact (Array.getElem?_eq_some_iff.1 h).1
theorem BoxS.c {w : World} {g : Nat} {v : Value} (h : BoxS w g v) : w.cell? ⟨g, 0, none⟩ = some v := by
  obtain ⟨T, h⟩ := h
  rw [cell_of_row w g 0 #[v] T (0, 0) h]
  rfl
theorem BoxS.keep {w w' : World} {g : Nat} {v : Value} (h : BoxS w g v) (hb : Below w.heap.size w w') : BoxS w' g v := by
  have hl := h.lt
  obtain ⟨T, h⟩ := h
  exact ⟨T, (hb.block g hl).trans h⟩
theorem BoxS.new (w : World) (v : Value) (T : TypeId) (g : Nat) (hg : g = w.heap.size) : BoxS (w.alloc (.cells #[v] T)) g v := by subst hg; exact ⟨T, heap_alloc_new w _⟩

theorem keepP {w W : World} {gx gt gb b o : Nat} {x0 x1 x2 x3 t0 t1 t2 t3 s y0 y1 y2 y3 : Value} (hx : Box4 W gx x0 x1 x2 x3) (ht : Box4 w gt t0 t1 t2 t3) (hs : BoxS w gb s) (hy : At4 w b o y0 y1 y2 y3) (hl : b < w.heap.size) (hb : Below w.heap.size w W) :
    W.cell? ⟨gx, 0, none⟩ = some x0 ∧ W.cell? ⟨gx, 1, none⟩ = some x1 ∧ W.cell? ⟨gx, 2, none⟩ = some x2 ∧ W.cell? ⟨gx, 3, none⟩ = some x3 ∧ W.cell? ⟨gt, 0, none⟩ = some t0 ∧ W.cell? ⟨gt, 1, none⟩ = some t1 ∧ W.cell? ⟨gt, 2, none⟩ = some t2 ∧ W.cell? ⟨gt, 3, none⟩ = some t3 ∧ W.cell? ⟨gb, 0, none⟩ = some s ∧ W.cell? ⟨b, o, none⟩ = some y0 ∧ W.cell? ⟨b, o + 1, none⟩ = some y1 ∧ W.cell? ⟨b, o + 2, none⟩ = some y2 ∧ W.cell? ⟨b, o + 3, none⟩ = some y3 := by
  obtain ⟨h1, h2, h3, h4⟩ := hx.c
  obtain ⟨h5, h6, h7, h8⟩ := (ht.keep hb).c
  obtain ⟨q1, q2, q3, q4⟩ := hy.below hl hb
  exact ⟨h1, h2, h3, h4, h5, h6, h7, h8, (hs.keep hb).c, q1, q2, q3, q4⟩

/-- One row, and another one's times. -/
def plusR (A : List Rat) (t : Rat) (B : List Rat) : List Rat := List.zipWith (fun a b => a + t * b) A B
theorem plusR_len {A B : List Rat} {t : Rat} (h : A.length = B.length) : (plusR A t B).length = A.length := by unfold plusR; rw [List.length_zipWith]; omega
theorem plusR_at {A B : List Rat} {t : Rat} {i : Nat} (h : i < (plusR A t B).length) (h1 : i < A.length) (h2 : i < B.length) : (plusR A t B)[i] = A[i] + t * B[i] := by simp [plusR]
/-- A row and that all is well have been told. -/
def QPair (n : Nat) (R : List Rat) (w : World) (e : Ending) (w' : World) : Prop := ∃ ao k cap, e = .returned (.tuple #[.slice ao k cap, .int .i64 0]) ∧ k = R.length ∧ QIs w' (.slice ao k cap) n R ∧ Below w.heap.size w w'

/-- A quotient and that all is well have been told. -/
theorem vdot_any (w : World) (ao bo : Option Addr) (k ca cb n m : Nat) (A B : List Rat) (hka : k = A.length) (hkb : k = B.length) (hA : QAt w ao ca n A) (hB : QAt w bo cb m B) (hn : 1 ≤ n) (hm : 1 ≤ m) (hk : (n + m) * k ≤ 14000) :
    Calls Tryz.prog 112 #[.slice ao k ca, .slice bo k cb] w (QSay ((n + m) * k + 1) (dotR A B) w) := by
  have hW0 : Below w.heap.size w (w.alloc (.cells #[.bool false, .slice none 0 0, .bool false, .slice none 0 0] 26)) := (by repeat (first | exact Below.refl _ _ | refine Below.alloc ?_ ?_ _ | refine Below.setCell ?_ ?_ _ | refine Below.drew ?_ | refine below_drewN ?_ _ | (· simp) | omega | (· simp; omega) | exact Below.size (by assumption) | assumption | refine below_call ?_ (by assumption) ?_))
  have bR : Box4 (w.alloc (.cells #[.bool false, .slice none 0 0, .bool false, .slice none 0 0] 26)) w.heap.size (.bool false) (.slice none 0 0) (.bool false) (.slice none 0 0) := Box4.new _ _ _ _ _ _ rfl
  have HA := hid (hA.below hW0)
  have HB := hid (hB.below hW0)
  have HKA := hid hka
  have HKB := hid hkb
  have HK := hid hk
  clear hA hB hka hkb hk
  go_enter Tryz.func112, Tryz.ntmps112
  go_wp2_with fail
  generalize w.alloc (.cells #[.bool false, .slice none 0 0, .bool false, .slice none 0 0] 26) = W0 at *
  refine (dot_any k _ _ _ n m A B HKA.out.symm HKB.out.symm ⟨_, _, _, rfl, HKA.out, HA.out⟩ ⟨_, _, _, rfl, HKB.out, HB.out⟩ hn hm HK.out).mono ?_
  rintro e w1 ⟨nr, ar, kr, cr, nt, at', kt, ct, rfl, hI, hb⟩
  have hW1 := below_call hW0 hb hW0.size
  replace bR := bR.keep hb
  have HS := hid (hI.off4 bR (grow4 w1 w.heap.size (.bool nr) (.slice ar kr cr) (.bool nt) (.slice at' kt ct)))
  have HB2 := hid (below_fill4 hW1 (Nat.le_refl _) (.bool nr) (.slice ar kr cr) (.bool nt) (.slice at' kt ct))
  obtain ⟨r0, r1, r2, r3⟩ := bR.c
  have rf := bR.f
  have rl := bR.lt
  clear hb hI bR HA HB
  go_wp2
  refine bodyPost_ret (v := .tuple #[.agg #[.bool nr, .slice ar kr cr, .bool nt, .slice at' kt ct], .int .i64 0]) ?_ rfl ⟨nr, ar, kr, cr, nt, at', kt, ct, rfl, HS.out, HB2.out⟩
  simp [results, Tryz.results112, go_sem, r0, r1, r2, r3]

theorem vdot_no (w : World) (ao bo : Option Addr) (k j ca cb : Nat) (hk : k ≠ j) (hk1 : k ≤ 9223372036854775807) (hj1 : j ≤ 9223372036854775807) :
    Calls Tryz.prog 112 #[.slice ao k ca, .slice bo j cb] w (fun e w' => e = .returned (.tuple #[.agg #[.bool false, .slice none 0 0, .bool false, .slice none 0 0], .int .i64 1]) ∧ Below w.heap.size w w') := by
  have hne : ((k : Int) != (j : Int)) = true := by simp; omega
  have bR : Box4 (w.alloc (.cells #[.bool false, .slice none 0 0, .bool false, .slice none 0 0] 26)) w.heap.size (.bool false) (.slice none 0 0) (.bool false) (.slice none 0 0) := Box4.new _ _ _ _ _ _ rfl
  have hW1 : Below w.heap.size w (w.alloc (.cells #[.bool false, .slice none 0 0, .bool false, .slice none 0 0] 26)) := (by repeat (first | exact Below.refl _ _ | refine Below.alloc ?_ ?_ _ | refine Below.setCell ?_ ?_ _ | refine Below.drew ?_ | refine below_drewN ?_ _ | (· simp) | omega | (· simp; omega) | exact Below.size (by assumption) | assumption | refine below_call ?_ (by assumption) ?_))
  have HB2 := hid (below_fill4 hW1 (Nat.le_refl _) (.bool false) (.slice none 0 0) (.bool false) (.slice none 0 0))
  obtain ⟨r0, r1, r2, r3⟩ := bR.c
  have rf := bR.f
  have rl := bR.lt
  go_enter Tryz.func112, Tryz.ntmps112
  go_wp2
  refine bodyPost_ret (v := .tuple #[.agg #[.bool false, .slice none 0 0, .bool false, .slice none 0 0], .int .i64 1]) ?_ rfl ⟨rfl, hW1⟩
  simp [results, Tryz.results112, go_sem, r0, r1, r2, r3]

end Go.Proofs.YtmnlggmdomcajaaGreat

namespace Go.Proofs.YtmnlggmdomcajaaGreat
open Go.RowKit Lm
set_option linter.unusedSimpArgs false
set_option linter.unusedVariables false
set_option maxRecDepth 100000

/-- A quotient as it is handed in. -/
structure RQ where
  n1 : Bool
  l1 : List Nat
  n2 : Bool
  l2 : List Nat
def RQ.r (q : RQ) : Rat := ratMean q.n1 q.l1 q.n2 q.l2
def RQ.sizes (q : RQ) : Nat × Nat := (q.l1.length, q.l2.length)
def RQ.small (q : RQ) : Prop := q.l1.length ≤ 6 ∧ q.l2.length ≤ 6
def RawAt (w : World) (b o : Nat) (q : RQ) : Prop := ∃ a1 c1 a2 c2, At4 w b o (.bool q.n1) (.slice a1 q.l1.length c1) (.bool q.n2) (.slice a2 q.l2.length c2) ∧ SlAt w a1 c1 q.l1 ∧ SlAt w a2 c2 q.l2
def RawRow (w : World) (ao : Option Addr) (cap : Nat) (L : List RQ) : Prop := L.length ≤ cap ∧ cap ≤ maxLen ∧ (L.length = 0 ∨ ∃ b off, ao = some ⟨b, off, none⟩ ∧ b < w.heap.size ∧ ∀ i (h : i < L.length), RawAt w b (off + i * 4) L[i])
def RawTab (w : World) (ao : Option Addr) (cap : Nat) (M : List (List RQ)) : Prop := M.length ≤ cap ∧ cap ≤ maxLen ∧ (M.length = 0 ∨ ∃ b off, ao = some ⟨b, off, none⟩ ∧ b < w.heap.size ∧ ∀ i (h : i < M.length), ∃ a k c, w.cell? ⟨b, off + i, none⟩ = some (.slice a k c) ∧ k = M[i].length ∧ RawRow w a c M[i])
theorem RawAt.below {w w' : World} {b o : Nat} {q : RQ} (h : RawAt w b o q) (hl : b < w.heap.size) (hb : Below w.heap.size w w') : RawAt w' b o q := by
  obtain ⟨a1, c1, a2, c2, h1, h2, h3⟩ := h
  exact ⟨a1, c1, a2, c2, h1.below hl hb, h2.below hb, h3.below hb⟩
theorem RawRow.below {w w' : World} {ao : Option Addr} {cap : Nat} {L : List RQ} (h : RawRow w ao cap L) (hb : Below w.heap.size w w') : RawRow w' ao cap L := by
  obtain ⟨h1, h2, h3⟩ := h
  refine ⟨h1, h2, ?_⟩
  rcases h3 with h3 | ⟨b, off, e, hlt, hc⟩
  · exact .inl h3
  · exact .inr ⟨b, off, e, Nat.lt_of_lt_of_le hlt hb.size, fun i hi => (hc i hi).below hlt hb⟩
theorem RawTab.below {w w' : World} {ao : Option Addr} {cap : Nat} {M : List (List RQ)} (h : RawTab w ao cap M) (hb : Below w.heap.size w w') : RawTab w' ao cap M := by
  obtain ⟨h1, h2, h3⟩ := h
  refine ⟨h1, h2, ?_⟩
  rcases h3 with h3 | ⟨b, off, e, hlt, hc⟩
  · exact .inl h3
  · refine .inr ⟨b, off, e, Nat.lt_of_lt_of_le hlt hb.size, fun i hi => ?_⟩
    obtain ⟨a, k, c, h4, h5, h6⟩ := hc i hi
    exact ⟨a, k, c, (bcells hb _ _ hlt).trans h4, h5, h6.below hb⟩
theorem RawRow.qat {w : World} {ao : Option Addr} {cap : Nat} {L : List RQ} (h : RawRow w ao cap L) (hs : ∀ q ∈ L, q.small) : QAt w ao cap 6 (L.map RQ.r) := by
  obtain ⟨h1, h2, h3⟩ := h
  refine ⟨by rw [List.length_map]; exact h1, h2, ?_⟩
  rcases h3 with h3 | ⟨b, off, e, hlt, hc⟩
  · exact .inl (by rw [List.length_map]; exact h3)
  · refine .inr ⟨b, off, e, hlt, fun i hi => ?_⟩
    rw [List.length_map] at hi
    obtain ⟨a1, c1, a2, c2, ⟨q1, q2, q3, q4⟩, s1, s2⟩ := hc i hi
    have hm := hs _ (List.getElem_mem hi)
    rw [List.getElem_map]
    exact ⟨_, _, _, _, _, _, _, _, q1, q2, q3, q4, ⟨_, _, L[i].l1, _, _, L[i].l2, rfl, ⟨_, _, rfl, s1⟩, ⟨_, _, rfl, s2⟩, hm.1, hm.2, rfl⟩⟩

theorem RawRow.lenm {w : World} {ao : Option Addr} {cap : Nat} {L : List RQ} (h : RawRow w ao cap L) : L.length ≤ 9223372036854775807 := by
  have h1 := h.1
  have h2 := h.2.1
  unfold maxLen at h2
  omega

set_option maxHeartbeats 800000 in
theorem greatQ_any (w : World) (ao : Option Addr) (cap k : Nat) (L : List RQ) (hk : k = L.length) (hR : RawRow w ao cap L) :
    Calls Tryz.prog 9 #[.slice ao k cap] w fun e w' => e = .returned (.bool (greatR (L.map RQ.sizes))) ∧ w' = w := by
  have hk64 : k ≤ 9223372036854775807 := by have := hR.lenm; omega
  have HK := hid hk
  have HR := hid hR
  clear hk hR
  go_enter Tryz.func9, Tryz.ntmps9
  go_wp2
  go_loop [3] (fun i => ∃ j : Nat, j ≤ k ∧ i = .int .i64 j ∧ ∀ p (hp : p < L.length), p < j → L[p].l1.length ≤ 6 ∧ L[p].l2.length ≤ 6) (fun i => k - (intOf i).toNat)
  case atStart => exact ⟨0, Nat.zero_le _, rfl, fun j hj hk => by omega⟩
  case round =>
    obtain ⟨j, hj, rfl, hall⟩ := hrel
    have HA := hid hall
    clear hall
    by_cases hlt : j < k
    · have hjl : j < L.length := by rw [← HK.out]; exact hlt
      rcases HR.out.2.2 with h0 | ⟨b, off, rfl, hbl, hc⟩
      · omega
      obtain ⟨a1, c1, a2, c2, ⟨p1, p2, p3, p4⟩, s1, s2⟩ := hc j hjl
      have hm1 := slat_len s1
      have hm2 := slat_len s2
      have HY : Hid (6 < L[j].l1.length ∨ 6 < L[j].l2.length → greatR (L.map RQ.sizes) = true) := hid (fun h => greatR_yes (k := j) (by rw [List.length_map]; exact hjl) (by rw [List.getElem_map]; exact h))
      clear hc s1 s2
      generalize hP : L[j].l1.length = P1 at *
      generalize hP' : L[j].l2.length = P2 at *
      have HP := hid hP
      have HP2 := hid hP'
      clear hP hP'
      by_cases h1 : 6 < P1
      · have hi1 : (6 : Int) < (P1 : Int) := by omega
        go_wp2
        go_ret
        exact ⟨ret_bool (HY.out (.inl h1)).symm, rfl⟩
      · have hi1 : ¬ (6 : Int) < (P1 : Int) := by omega
        by_cases h2 : 6 < P2
        · have hi2 : (6 : Int) < (P2 : Int) := by omega
          go_wp2
          go_ret
          exact ⟨ret_bool (HY.out (.inr h2)).symm, rfl⟩
        · have hi2 : ¬ (6 : Int) < (P2 : Int) := by omega
          go_wp2
          go_round
          case rel =>
            refine ⟨j + 1, by omega, by go_num, fun p hp hpk => ?_⟩
            by_cases hpk2 : p = j
            · subst hpk2
              rw [HP.out, HP2.out]
              omega
            · exact HA.out p hp (by omega)
          case measure => simp [intOf]; omega
    · have HF : Hid (greatR (L.map RQ.sizes) = false) := hid (greatR_no (fun p hp => by
        rw [List.length_map] at hp
        rw [List.getElem_map]
        exact HA.out p hp (by have := HK.out; omega)))
      go_wp2
      go_ret
      exact ⟨ret_bool HF.out.symm, rfl⟩

/-- How many rows and numbers. -/
def rowSum (M : List (List RQ)) : Nat := (M.map (fun L => 1 + L.length)).sum
def minSum (M : List (List RQ)) : Nat := (M.map (fun L => 1 + min L.length 201)).sum
theorem minSum_take {M : List (List RQ)} {j : Nat} (h : j < M.length) : minSum (M.take (j + 1)) = minSum (M.take j) + (1 + min M[j].length 201) := by
  unfold minSum
  rw [List.take_succ_eq_append_getElem h, List.map_append, List.sum_append]
  rfl
theorem minSum_len (M : List (List RQ)) : M.length ≤ minSum M := by
  unfold minSum
  induction M with
  | nil => simp
  | cons L M ih => simp at ih ⊢; omega
theorem minSum_small {M : List (List RQ)} (h : minSum M ≤ 200) : rowSum M ≤ 200 ∧ ∀ L ∈ M, L.length ≤ 199 := by
  have : rowSum M = minSum M ∧ ∀ L ∈ M, L.length ≤ 199 := by
    unfold minSum at h
    unfold rowSum minSum
    induction M with
    | nil => simp
    | cons L M ih =>
      simp at h ih ⊢
      obtain ⟨h1, h2⟩ := ih (by omega)
      refine ⟨by omega, by omega, h2⟩
  exact ⟨by omega, this.2⟩
def tabSmall (M : List (List RQ)) : Prop := rowSum M ≤ 200 ∧ ∀ L ∈ M, ∀ q ∈ L, q.small
theorem small_of {L : List RQ} (h : greatR (L.map RQ.sizes) = false) : ∀ q ∈ L, q.small := by
  intro q hq
  exact great_small h q.sizes (List.mem_map.2 ⟨q, hq, rfl⟩)

def GreatRel (w : World) (M : List (List RQ)) (nv iv : Value) (wr : World) : Prop := ∃ j : Nat, j ≤ M.length ∧ iv = .int .i64 j ∧ nv = .int .i64 (minSum (M.take j) : Nat) ∧ minSum (M.take j) ≤ 402 ∧ (∀ p (hp : p < M.length), p < j → M[p].length ≤ 200 → ∀ q ∈ M[p], q.small) ∧ wr = w
/-- The answer of Great. -/
def GreatSay (w : World) (M : List (List RQ)) (e : Ending) (w' : World) : Prop := ∃ b, e = .returned (.bool b) ∧ (b = false → tabSmall M) ∧ w' = w

set_option maxHeartbeats 1600000 in
theorem great4_any (w : World) (ao : Option Addr) (cap k : Nat) (M : List (List RQ)) (hk : k = M.length) (hR : RawTab w ao cap M) :
    Calls Tryz.prog 55 #[.slice ao k cap] w (GreatSay w M) := by
  have hk64 : k ≤ 9223372036854775807 := by have h1 := hR.1; have h2 := hR.2.1; unfold maxLen at h2; omega
  have HK := hid hk
  have HR := hid hR
  clear hk hR
  go_enter Tryz.func55, Tryz.ntmps55
  go_wp2
  go_loopw [3, 4] (fun nv iv wr => GreatRel w M nv iv wr) (fun nv iv wr => k - (intOf iv).toNat)
  case atStart => exact ⟨0, Nat.zero_le _, rfl, rfl, by simp [minSum], fun j hj hk => by omega, rfl⟩
  case round =>
    obtain ⟨j, hj, rfl, rfl, hn, hall, rfl⟩ := hrel
    have HA := hid hall
    clear hall
    have hjn : j ≤ minSum (M.take j) := by have := minSum_len (M.take j); rw [List.length_take] at this; omega
    generalize hN : minSum (M.take j) = N at *
    have HN := hid hN
    clear hN
    rw [← HK.out] at hj
    by_cases hlt : j < k
    · by_cases hn2 : N ≤ 200
      · have hjl : j < M.length := by rw [← HK.out]; exact hlt
        rcases HR.out.2.2 with h0 | ⟨b, off, rfl, hbl, hc⟩
        · omega
        obtain ⟨a, kr, cr, hcell, hkr, hrow⟩ := hc j hjl
        have hkm : kr ≤ 9223372036854775807 := by have := hrow.lenm; omega
        have HT : Hid (minSum (M.take (j + 1)) = N + (1 + min kr 201)) := hid (by rw [minSum_take hjl, HN.out, hkr])
        have HKR := hid hkr
        have HW := hid hrow
        have hfc : (N : Int) ≤ 200 := by omega
        clear hc hkr hrow
        by_cases h200 : kr ≤ 200
        · have hi2 : (kr : Int) ≤ 200 := by omega
          have hmin : min (kr : Int) 201 = kr := by omega
          go_wp2_with fail
          refine (greatQ_any _ _ _ _ M[j] HKR.out HW.out).mono ?_
          rintro e w1 ⟨rfl, rfl⟩
          cases hG : greatR (M[j].map RQ.sizes)
          · have HS := hid (small_of hG)
            clear hG
            go_wp2
            go_roundw
            case rel =>
              refine ⟨j + 1, by omega, by go_num, by rw [HT.out]; go_num, by rw [HT.out]; omega, fun p hp hpj hp2 => ?_, rfl⟩
              by_cases hpj2 : p = j
              · subst hpj2; exact HS.out
              · exact HA.out p hp (by omega) hp2
            case measure => simp [intOf]; omega
          · clear hG
            go_wp2
            go_ret
            exact ⟨true, rfl, by simp, rfl⟩
        · have hi2 : ¬ (kr : Int) ≤ 200 := by omega
          have hmin : min (kr : Int) 201 = 201 := by omega
          go_wp2
          go_roundw
          case rel =>
            refine ⟨j + 1, by omega, by go_num, by rw [HT.out]; go_num, by rw [HT.out]; omega, fun p hp hpj hp2 => ?_, rfl⟩
            by_cases hpj2 : p = j
            · subst hpj2; have := HKR.out; omega
            · exact HA.out p hp (by omega) hp2
          case measure => simp [intOf]; omega
      · have hfc : ¬ (N : Int) ≤ 200 := by omega
        have hfc2 : (200 : Int) < (N : Int) := by omega
        go_wp2
        go_ret
        exact ⟨true, rfl, by simp, rfl⟩
    · by_cases hn2 : N ≤ 200
      · have HF : Hid (tabSmall M) := hid (by
          have he : M.take j = M := List.take_of_length_le (by have := HK.out; omega)
          have h1 := HN.out
          rw [he] at h1
          obtain ⟨h2, h3⟩ := minSum_small (M := M) (by omega)
          refine ⟨h2, fun L hL => ?_⟩
          obtain ⟨p, hp, rfl⟩ := List.getElem_of_mem hL
          have := h3 _ hL
          exact HA.out p hp (by have := HK.out; omega) (by omega))
        have hfc2 : ¬ (200 : Int) < (N : Int) := by omega
        go_wp2
        go_ret
        exact ⟨false, rfl, fun _ => HF.out, rfl⟩
      · have hfc2 : (200 : Int) < (N : Int) := by omega
        go_wp2
        go_ret
        exact ⟨true, rfl, by simp, rfl⟩

end Go.Proofs.YtmnlggmdomcajaaGreat

namespace Go.Proofs.YtmnlggmdomcajaaGreat
open Go.RowKit Lm
set_option linter.unusedSimpArgs false
set_option linter.unusedVariables false
set_option maxRecDepth 100000

structure VE (U W : World) (KR KS : List (Value × Nat × Rat)) (RR RS : List (Value × Nat × List Rat)) : Prop where
  r : ∀ p ∈ KR, RArg W p.1 p.2.1 p.2.2
  s : ∀ p ∈ KS, RIs W 0 p.1 p.2.1 p.2.2
  rr : ∀ p ∈ RR, QSl W p.1 p.2.1 p.2.2
  rs : ∀ p ∈ RS, QIs W p.1 p.2.1 p.2.2
  bl : Below U.heap.size U W

variable {U W W' : World} {KR KS KR' KS' : List (Value × Nat × Rat)} {RR RS RR' RS' : List (Value × Nat × List Rat)} {u v : Value} {n m : Nat} {r t : Rat} {A B : List Rat}

theorem VE.none (W : World) : VE W W [] [] [] [] := ⟨by simp, by simp, by simp, by simp, Below.refl _ _⟩
theorem VE.step (E : VE U W KR KS RR RS) (hb : Below W.heap.size W W') : VE U W' KR KS RR RS :=
  ⟨fun p hp => (E.r p hp).below hb, fun p hp => (E.s p hp).below hb, fun p hp => (E.rr p hp).below hb, fun p hp => (E.rs p hp).below hb, below_call E.bl hb E.bl.size⟩
theorem VE.drew (E : VE U W KR KS RR RS) : VE U W.drew KR KS RR RS := E.step (Below.refl _ _).drew
theorem VE.alloc (E : VE U W KR KS RR RS) (o : Obj) : VE U (W.alloc o) KR KS RR RS := E.step ((Below.refl _ _).alloc (Nat.le_refl _) o)
theorem VE.rebase (E : VE U W KR KS RR RS) : VE W W KR KS RR RS := ⟨E.r, E.s, E.rr, E.rs, Below.refl _ _⟩
theorem VE.knowR (E : VE U W KR KS RR RS) (h : RArg W v n r) : VE U W ((v, n, r) :: KR) KS RR RS :=
  ⟨fun p hp => by rcases List.mem_cons.1 hp with rfl | hp; exact h; exact E.r p hp, E.s, E.rr, E.rs, E.bl⟩
theorem VE.knowS (E : VE U W KR KS RR RS) (h : RIs W 0 v n r) : VE U W ((v, n, r) :: KR) ((v, n, r) :: KS) RR RS :=
  ⟨fun p hp => by rcases List.mem_cons.1 hp with rfl | hp; exact h.arg; exact E.r p hp, fun p hp => by rcases List.mem_cons.1 hp with rfl | hp; exact h; exact E.s p hp, E.rr, E.rs, E.bl⟩
theorem VE.knowRow (E : VE U W KR KS RR RS) (h : QSl W v n A) : VE U W KR KS ((v, n, A) :: RR) RS :=
  ⟨E.r, E.s, fun p hp => by rcases List.mem_cons.1 hp with rfl | hp; exact h; exact E.rr p hp, E.rs, E.bl⟩
theorem VE.knowIs (E : VE U W KR KS RR RS) (h : QIs W v n A) : VE U W KR KS ((v, n, A) :: RR) ((v, n, A) :: RS) :=
  ⟨E.r, E.s, fun p hp => by rcases List.mem_cons.1 hp with rfl | hp; exact h.sl; exact E.rr p hp, fun p hp => by rcases List.mem_cons.1 hp with rfl | hp; exact h; exact E.rs p hp, E.bl⟩
theorem VE.less (E : VE U W KR KS RR RS) (h1 : ∀ p ∈ KR', p ∈ KR) (h2 : ∀ p ∈ KS', p ∈ KS) (h3 : ∀ p ∈ RR', p ∈ RR) (h4 : ∀ p ∈ RS', p ∈ RS) : VE U W KR' KS' RR' RS' :=
  ⟨fun p hp => E.r p (h1 p hp), fun p hp => E.s p (h2 p hp), fun p hp => E.rr p (h3 p hp), fun p hp => E.rs p (h4 p hp), E.bl⟩

/-- A quotient has been told. -/
def SaysV (U W : World) (KR KS : List (Value × Nat × Rat)) (RR RS : List (Value × Nat × List Rat)) (n : Nat) (r : Rat) (e : Ending) (w' : World) : Prop :=
  ∃ n1 a1 k1 c1 n2 a2 k2 c2, e = .returned (.agg #[.bool n1, .slice a1 k1 c1, .bool n2, .slice a2 k2 c2]) ∧ VE U w' (((.agg #[.bool n1, .slice a1 k1 c1, .bool n2, .slice a2 k2 c2]), n, r) :: KR) (((.agg #[.bool n1, .slice a1 k1 c1, .bool n2, .slice a2 k2 c2]), n, r) :: KS) RR RS ∧ Below W.heap.size W w'
/-- A quotient and that all is well have been told. -/
def SaysP (U W : World) (KR KS : List (Value × Nat × Rat)) (RR RS : List (Value × Nat × List Rat)) (n : Nat) (r : Rat) (e : Ending) (w' : World) : Prop :=
  ∃ n1 a1 k1 c1 n2 a2 k2 c2, e = .returned (.tuple #[(.agg #[.bool n1, .slice a1 k1 c1, .bool n2, .slice a2 k2 c2]), .int .i64 0]) ∧ VE U w' (((.agg #[.bool n1, .slice a1 k1 c1, .bool n2, .slice a2 k2 c2]), n, r) :: KR) (((.agg #[.bool n1, .slice a1 k1 c1, .bool n2, .slice a2 k2 c2]), n, r) :: KS) RR RS ∧ Below W.heap.size W w'
/-- A row and that all is well have been told. -/
def SaysW (U W : World) (KR KS : List (Value × Nat × Rat)) (RR RS : List (Value × Nat × List Rat)) (n : Nat) (A : List Rat) (e : Ending) (w' : World) : Prop :=
  ∃ ao k cap, e = .returned (.tuple #[.slice ao k cap, .int .i64 0]) ∧ k = A.length ∧ VE U w' KR KS ((.slice ao k cap, n, A) :: RR) ((.slice ao k cap, n, A) :: RS) ∧ Below W.heap.size W w'
theorem saysV_of {lo : Nat} {e : Ending} (E : VE U W KR KS RR RS) (h : RSay lo n r W e W') : SaysV U W KR KS RR RS n r e W' := by
  obtain ⟨n1, a1, k1, c1, n2, a2, k2, c2, rfl, hI, hb⟩ := h
  exact ⟨n1, a1, k1, c1, n2, a2, k2, c2, rfl, (E.step hb).knowS (hI.mono (Nat.zero_le _) (Nat.le_refl _)), hb⟩
theorem saysP_of {e : Ending} (E : VE U W KR KS RR RS) (h : QSay n r W e W') : SaysP U W KR KS RR RS n r e W' := by
  obtain ⟨n1, a1, k1, c1, n2, a2, k2, c2, rfl, hI, hb⟩ := h
  exact ⟨n1, a1, k1, c1, n2, a2, k2, c2, rfl, (E.step hb).knowS hI, hb⟩
theorem saysW_of {e : Ending} (E : VE U W KR KS RR RS) (h : QPair n A W e W') : SaysW U W KR KS RR RS n A e W' := by
  obtain ⟨ao, k, cap, rfl, hk, hI, hb⟩ := h
  exact ⟨ao, k, cap, rfl, hk, (E.step hb).knowIs hI, hb⟩
theorem qsl_at {ao : Option Addr} {k cap : Nat} (h : QSl W (.slice ao k cap) n A) : k = A.length ∧ QAt W ao cap n A := by
  obtain ⟨ao', k', cap', e, hk, h⟩ := h
  simp only [Value.slice.injEq] at e
  obtain ⟨rfl, rfl, rfl⟩ := e
  exact ⟨hk, h⟩
theorem ve_ofRat (E : VE U W KR KS RR RS) (z : Int) (h1 : -9223372036854775808 ≤ z) (h2 : z ≤ 9223372036854775807) : Calls Tryz.prog 35 #[.int .i64 z] W (SaysV U W KR KS RR RS 2 (z : Rat)) :=
  (ofRat_any W z h1 h2).mono fun e w' h => saysV_of E h
theorem ve_mulRat (E : VE U W KR KS RR RS) (hu : (u, n, r) ∈ KR) (hv : (v, m, t) ∈ KR) (hn : n ≤ 5000) (hm : m ≤ 5000) : Calls Tryz.prog 84 #[u, v] W (SaysV U W KR KS RR RS (2 * n + 2 * m + 8) (r * t)) :=
  (mulRat_any W u v n m r t (E.r _ hu) (E.r _ hv) hn hm).mono fun e w' h => saysV_of E h
theorem ve_addRat (E : VE U W KR KS RR RS) (hu : (u, n, r) ∈ KR) (hv : (v, m, t) ∈ KR) (hn : n ≤ 5000) (hm : m ≤ 5000) : Calls Tryz.prog 37 #[u, v] W (SaysV U W KR KS RR RS (3 * n + 3 * m + 13) (r + t)) :=
  (addRat_any W u v n m r t (E.r _ hu) (E.r _ hv) hn hm).mono fun e w' h => saysV_of E h
theorem ve_sameRat (E : VE U W KR KS RR RS) (hu : (u, n, r) ∈ KS) (hv : (v, m, t) ∈ KS) (hrt : r = t) : Calls Tryz.prog 48 #[u, v] W fun e w' => e = .returned (.bool true) ∧ VE U w' KR KS RR RS ∧ Below W.heap.size W w' := by
  refine (sameRat_any W u v n m r t (E.s _ hu) (E.s _ hv)).mono ?_
  rintro e w' ⟨rfl, hb⟩
  exact ⟨by rw [decide_eq_true hrt], E.step hb, hb⟩
theorem ve_dot (E : VE U W KR KS RR RS) {ao bo : Option Addr} {k ca cb : Nat} (hu : (.slice ao k ca, n, A) ∈ RR) (hv : (.slice bo k cb, m, B) ∈ RR) (hn : 1 ≤ n) (hm : 1 ≤ m) (hk : (n + m) * k ≤ 14000) : Calls Tryz.prog 112 #[.slice ao k ca, .slice bo k cb] W (SaysP U W KR KS RR RS ((n + m) * k + 1) (dotR A B)) :=
  (vdot_any W ao bo k ca cb n m A B (qsl_at (E.rr _ hu)).1 (qsl_at (E.rr _ hv)).1 (qsl_at (E.rr _ hu)).2 (qsl_at (E.rr _ hv)).2 hn hm hk).mono fun e w' h => saysP_of E h
theorem qat_two {W : World} {g n : Nat} {n1 n2 n3 n4 : Bool} {a1 a2 a3 a4 : Option Addr} {k1 c1 k2 c2 k3 c3 k4 c4 : Nat} {x y : Rat} (h : W.heap[g]? = some (.cells #[.bool n1, .slice a1 k1 c1, .bool n2, .slice a2 k2 c2, .bool n3, .slice a3 k3 c3, .bool n4, .slice a4 k4 c4] 26 (0, 0))) (hx : RArg W (.agg #[.bool n1, .slice a1 k1 c1, .bool n2, .slice a2 k2 c2]) n x) (hy : RArg W (.agg #[.bool n3, .slice a3 k3 c3, .bool n4, .slice a4 k4 c4]) n y) : QSl W (.slice (some ⟨g, 0, none⟩) 2 2) n [x, y] := by
  refine ⟨_, _, _, rfl, rfl, Nat.le_refl _, by unfold maxLen; omega, .inr ⟨g, 0, rfl, (Array.getElem?_eq_some_iff.1 h).1, fun i hi => ?_⟩⟩
  simp at hi
  rcases (show i = 0 ∨ i = 1 by omega) with rfl | rfl
  · exact ⟨_, _, _, _, _, _, _, _, by rw [cell_of_row _ _ _ _ _ _ h]; rfl, by rw [cell_of_row _ _ _ _ _ _ h]; rfl, by rw [cell_of_row _ _ _ _ _ _ h]; rfl, by rw [cell_of_row _ _ _ _ _ _ h]; rfl, hx⟩
  · exact ⟨_, _, _, _, _, _, _, _, by rw [cell_of_row _ _ _ _ _ _ h]; rfl, by rw [cell_of_row _ _ _ _ _ _ h]; rfl, by rw [cell_of_row _ _ _ _ _ _ h]; rfl, by rw [cell_of_row _ _ _ _ _ _ h]; rfl, hy⟩
theorem dot_eleven : dotR [((1 : Int) : Rat), ((2 : Int) : Rat)] [((3 : Int) : Rat), ((4 : Int) : Rat)] = ((11 : Int) : Rat) := by
  show ((1 : Int) : Rat) * ((3 : Int) : Rat) + (((2 : Int) : Rat) * ((4 : Int) : Rat) + 0) = ((11 : Int) : Rat)
  rw [Rat.add_zero, ← Rat.intCast_mul, ← Rat.intCast_mul, ← Rat.intCast_add]
  rfl

end Go.Proofs.YtmnlggmdomcajaaGreat
