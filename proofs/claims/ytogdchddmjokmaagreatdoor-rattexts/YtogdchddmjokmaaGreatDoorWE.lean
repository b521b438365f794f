/-
  Plain mathematics of long division, limb by limb.
  Walks: the highest bit of a limb; shifts of limbs.
  Walks: shifts to the right; a limb times a divisor taken off; the guess of a limb.
  Walks: a limb times a divisor taken off.
  Walks: the guess of a limb of a quotient.
  Walks: long division.
-/
import Derived.Test.YtogdchddmjokmaaGreatDoorWA
import Derived.Test.YtogdchddmjokmaaGreatDoorWC
import Derived.Lib.Tables
import Derived.Lib.BitFns
import Derived.Test.YtogdchddmjokmaaGreatDoorWB

namespace Go.Proofs.YtogdchddmjokmaaGreatDoor.Lm
set_option linter.unusedVariables false
set_option maxRecDepth 100000

/-- What the two highest limbs of a divisor and the three highest of a part tell. -/
structure Tops (U V P u2 top vn vh : Nat) : Prop where
  p : 0 < P
  vlo : (vn + 4294967296 * vh) * P ≤ V
  vhi : V < (vn + 4294967296 * vh + 1) * P
  ulo : (u2 + 4294967296 * top) * P ≤ U
  uhi : U < (u2 + 4294967296 * top + 1) * P
  h2 : u2 < 4294967296
  hn : vn < 4294967296
  hv : 4294967296 ≤ 2 * vh
  lt : U < V * 4294967296

theorem Tops.up {U V P u2 top vn vh : Nat} (h : Tops U V P u2 top vn vh) {q : Nat} (hq : u2 + 4294967296 * top + 1 ≤ q * (vn + 4294967296 * vh)) : U < q * V := by
  have h1 := Nat.mul_le_mul_right P hq
  have h2 := Nat.mul_le_mul_left q h.vlo
  have h3 := h.uhi
  rw [Nat.mul_assoc] at h1
  omega
theorem Tops.first {U V P u2 top vn vh : Nat} (h : Tops U V P u2 top vn vh) : U < (top / vh + 1) * V := by
  apply h.up
  have hv := h.hv
  have h2 := h.h2
  have h1 := Nat.lt_div_mul_add (a := top) (b := vh) (by omega)
  have h3 : top + 1 ≤ (top / vh + 1) * vh := by rw [Nat.add_mul]; omega
  have h4 : (top / vh + 1) * vh * 4294967296 ≤ (top / vh + 1) * (vn + 4294967296 * vh) := by
    rw [Nat.mul_assoc]
    exact Nat.mul_le_mul_left _ (by omega)
  omega
theorem Tops.dec {U V P u2 top vn vh : Nat} (h : Tops U V P u2 top vn vh) {q r : Nat} (hr : q * vh + r = top) (hq : r * 4294967296 + u2 < q * vn) : U < q * V := by
  apply h.up
  rw [Nat.mul_add, ← Nat.mul_assoc, Nat.mul_comm q 4294967296, Nat.mul_assoc]
  generalize q * vh = X at *
  omega
theorem Tops.dec2 {U V P u2 top vn vh : Nat} (h : Tops U V P u2 top vn vh) {q : Nat} (hq : 4294967296 ≤ q) : U < q * V := by
  have h1 := h.lt
  have h2 := Nat.mul_le_mul_right V hq
  rw [Nat.mul_comm V] at h1
  omega
theorem Tops.fin {U V P u2 top vn vh : Nat} (h : Tops U V P u2 top vn vh) {q r : Nat} (hr : q * vh + r = top) (hq : q * vn ≤ r * 4294967296 + u2) (hb : q ≤ 4294967296) : q * V ≤ U + V := by
  have hv := h.hv
  have h1 : q * (vn + 4294967296 * vh) ≤ u2 + 4294967296 * top := by
    rw [Nat.mul_add, ← Nat.mul_assoc, Nat.mul_comm q 4294967296, Nat.mul_assoc]
    generalize q * vh = X at *
    omega
  have h2 := Nat.mul_le_mul_right P h1
  have h3 : q * V ≤ q * ((vn + 4294967296 * vh + 1) * P) := Nat.mul_le_mul_left _ (Nat.le_of_lt h.vhi)
  have h4 : q * ((vn + 4294967296 * vh + 1) * P) = q * (vn + 4294967296 * vh) * P + q * P := by
    rw [Nat.add_mul (vn + 4294967296 * vh) 1 P, Nat.mul_add, Nat.one_mul, Nat.mul_assoc]
  have h5 : q * P ≤ (vn + 4294967296 * vh) * P := Nat.mul_le_mul_right _ (by omega)
  have h6 := h.vlo
  have h7 := h.ulo
  omega
theorem Tops.top_lt {U V P u1 u2 u0 vn vh : Nat} (h : Tops U V P u2 (u1 + 4294967296 * u0) vn vh) : u0 ≤ vh := by
  have h1 : (u2 + 4294967296 * (u1 + 4294967296 * u0)) * P < (vn + 4294967296 * vh + 1) * 4294967296 * P := by
    have e := h.lt
    have e1 := h.ulo
    have e2 := Nat.mul_lt_mul_of_pos_right h.vhi (show 0 < 4294967296 by omega)
    have e3 : (vn + 4294967296 * vh + 1) * P * 4294967296 = (vn + 4294967296 * vh + 1) * 4294967296 * P := by
      rw [Nat.mul_assoc, Nat.mul_comm P, ← Nat.mul_assoc]
    omega
  have h2 := Nat.lt_of_mul_lt_mul_right h1
  have h3 := h.hn
  omega
theorem Tops.q_le {U V P u1 u2 u0 vn vh : Nat} (h : Tops U V P u2 (u1 + 4294967296 * u0) vn vh) (h1 : u1 < 4294967296) : (u1 + 4294967296 * u0) / vh ≤ 4294967297 := by
  have h0 := h.top_lt
  have hv := h.hv
  have : (u1 + 4294967296 * u0) / vh < 4294967298 := by
    rw [Nat.div_lt_iff_lt_mul (by omega)]
    omega
  omega
theorem Tops.broke {U V P u1 u2 u0 vn vh : Nat} (h : Tops U V P u2 (u1 + 4294967296 * u0) vn vh) (h1 : u1 < 4294967296) {q r : Nat} (hr : q * vh + r = u1 + 4294967296 * u0) (hb : 4294967296 ≤ r) : q < 4294967296 ∧ q * vn ≤ r * 4294967296 + u2 := by
  have h0 := h.top_lt
  have hv := h.hv
  have hn := h.hn
  have h2 : q < 4294967296 := by
    have : q * vh < 4294967296 * vh := by omega
    exact Nat.lt_of_mul_lt_mul_right this
  refine ⟨h2, ?_⟩
  have h3 := Nat.mul_le_mul (show q ≤ 4294967296 by omega) (show vn ≤ 4294967296 by omega)
  have h4 := Nat.mul_le_mul_right 4294967296 hb
  omega

theorem split2 {V : List Nat} {n : Nat} (hl : V.length = n) (hn : 2 ≤ n) : val V = val (V.take (n - 2)) + pw (n - 2) * (V.getD (n - 2) 0 + 4294967296 * V.getD (n - 1) 0) := by
  have h1 := val_take_succ V (n - 2) (by omega)
  have h2 := val_take_succ V (n - 1) (by omega)
  rw [show n - 2 + 1 = n - 1 by omega] at h1
  rw [show n - 1 + 1 = n by omega, List.take_of_length_le (by omega)] at h2
  have h3 : pw (n - 1) = 4294967296 * pw (n - 2) := by rw [show n - 1 = (n - 2) + 1 by omega]; rfl
  rw [h2, h1, h3, Nat.mul_add]
  have : pw (n - 2) * (4294967296 * V.getD (n - 1) 0) = 4294967296 * pw (n - 2) * V.getD (n - 1) 0 := by
    rw [← Nat.mul_assoc, Nat.mul_comm (pw (n - 2))]
  omega
theorem split3 {U : List Nat} {n : Nat} (hl : U.length = n + 1) (hn : 2 ≤ n) : val U = val (U.take (n - 2)) + pw (n - 2) * (U.getD (n - 2) 0 + 4294967296 * (U.getD (n - 1) 0 + 4294967296 * U.getD n 0)) := by
  have h0 := split2 (V := U.take n) (n := n) (by simp; omega) hn
  have h1 := val_take_succ U n (by omega)
  rw [List.take_of_length_le (by omega)] at h1
  have h3 : pw n = 4294967296 * (4294967296 * pw (n - 2)) := by rw [show n = (n - 2) + 1 + 1 by omega]; rfl
  have g1 : (U.take n).getD (n - 2) 0 = U.getD (n - 2) 0 := by simp only [List.getD_eq_getElem?_getD, List.getElem?_take]; rw [if_pos (by omega)]
  have g2 : (U.take n).getD (n - 1) 0 = U.getD (n - 1) 0 := by simp only [List.getD_eq_getElem?_getD, List.getElem?_take]; rw [if_pos (by omega)]
  rw [g1, g2, List.take_take, Nat.min_eq_left (by omega)] at h0
  rw [h1, h0, h3]
  simp only [Nat.mul_add]
  have e1 : pw (n - 2) * (4294967296 * (4294967296 * U.getD n 0)) = 4294967296 * (4294967296 * pw (n - 2)) * U.getD n 0 := by
    rw [← Nat.mul_assoc, ← Nat.mul_assoc, Nat.mul_comm (pw (n - 2)), Nat.mul_assoc 4294967296, Nat.mul_comm (pw (n - 2)), ← Nat.mul_assoc]
  omega
theorem tops_of {U V : List Nat} {n : Nat} (okU : ok U) (okV : ok V) (hU : U.length = n + 1) (hV : V.length = n) (hn : 2 ≤ n) (hv : 4294967296 ≤ 2 * V.getD (n - 1) 0) (hlt : val U < val V * 4294967296) :
    Tops (val U) (val V) (pw (n - 2)) (U.getD (n - 2) 0) (U.getD (n - 1) 0 + 4294967296 * U.getD n 0) (V.getD (n - 2) 0) (V.getD (n - 1) 0) := by
  have h1 := split2 hV hn
  have h2 := split3 hU hn
  have h3 := val_lt (ok_take okV (n - 2))
  have h4 := val_lt (ok_take okU (n - 2))
  rw [List.length_take, Nat.min_eq_left (by omega)] at h3 h4
  refine ⟨pw_pos _, ?_, ?_, ?_, ?_, ok_getD okU _, ok_getD okV _, hv, hlt⟩
  · rw [Nat.mul_comm]; omega
  · rw [Nat.add_mul, Nat.one_mul, Nat.mul_comm _ (pw (n - 2))]; omega
  · rw [Nat.mul_comm]; omega
  · rw [Nat.add_mul, Nat.one_mul, Nat.mul_comm _ (pw (n - 2))]; omega

/-- The limbs above a small number are noughts. -/
theorem high_zero {C : List Nat} {n V : Nat} (h : val C < V) (hV : V ≤ pw n) (hn : n ≤ C.length) : val (C.drop n) = 0 ∧ val (C.take n) = val C := by
  have e : val C = val (C.take n) + pw n * val (C.drop n) := by
    conv => lhs; rw [← List.take_append_drop n C, val_append]
    rw [List.length_take, Nat.min_eq_left hn]
  by_cases h0 : val (C.drop n) = 0
  · rw [h0] at e; exact ⟨h0, by omega⟩
  · have : pw n * 1 ≤ pw n * val (C.drop n) := Nat.mul_le_mul_left _ (by omega)
    omega

/-- One limb of a quotient: what is subtracted, once too much or not. -/
theorem sub_back {U V q over U' c U2 W : Nat} (h1 : U + W * over = U' + q * V) (hov : over = 1) (h2 : U2 + W * c = U' + V) (hq : q * V ≤ U + V) (hU2 : U2 < W) (hU' : U' < W) (hc : c ≤ 1) (hq0 : 0 < q) : U = U2 + (q - 1) * V := by
  subst hov
  obtain ⟨p, rfl⟩ : ∃ p, q = p + 1 := ⟨q - 1, by omega⟩
  rw [Nat.add_mul, Nat.one_mul] at h1 hq
  rw [Nat.add_sub_cancel]
  generalize p * V = X at *
  have hc1 : c = 0 ∨ c = 1 := by omega
  rcases hc1 with rfl | rfl
  · omega
  · omega

theorem times_sub {A V C : List Nat} {k c s c' x t : Nat} (hkC : k < C.length) (hkA : k < A.length) (hkV : k < V.length)
    (hv : val (A.take k) + pw k * c = val (C.take k) + x * val (V.take k)) (hs : A.getD k 0 + 4294967296 * c' = s + x * V.getD k 0 + c) :
    val (A.take (k + 1)) + pw (k + 1) * c' = val ((C.set k s).take (k + 1)) + x * val (V.take (k + 1)) := by
  have e0 : val ((C.set k s).take (k + 1)) = val (C.take k) + pw k * s := by
    rw [val_take_succ _ k (by simpa using hkC), set_take (Nat.le_refl _)]
    simp [List.getD_eq_getElem?_getD, hkC]
  have e1 : pw (k + 1) * c' = pw k * (4294967296 * c') := by simp only [pw]; rw [← Nat.mul_assoc, Nat.mul_comm (pw k)]
  rw [e0, val_take_succ A k hkA, val_take_succ V k hkV, e1]
  have h1 := congrArg (pw k * ·) hs
  simp only [Nat.mul_add] at h1
  have h2 : x * (pw k * V.getD k 0) = pw k * (x * V.getD k 0) := by rw [← Nat.mul_assoc, Nat.mul_comm x, Nat.mul_assoc]
  rw [Nat.mul_add, h2]
  omega

/-- A limb of a shift to the left. -/
theorem up_limb {x s c : Nat} (hs : s < 32) (hc : c < 2 ^ s) : (x * 2 ^ s % 4294967296) ||| c = x * 2 ^ s % 4294967296 + c := by
  have e : (4294967296 : Nat) = 2 ^ s * 2 ^ (32 - s) := by rw [← Nat.pow_add, show s + (32 - s) = 32 by omega]
  have e2 : x * 2 ^ s % 4294967296 = 2 ^ s * (x % 2 ^ (32 - s)) := by
    rw [e, Nat.mul_comm x, Nat.mul_mod_mul_left]
  rw [e2]
  exact (Nat.two_pow_add_eq_or_of_lt hc _).symm
theorem up_carry {x s : Nat} (hx : x < 4294967296) : x * 2 ^ s / 4294967296 < 2 ^ s := by
  rw [Nat.div_lt_iff_lt_mul (by omega), Nat.mul_comm (2 ^ s)]
  exact Nat.mul_lt_mul_of_pos_right hx (Nat.two_pow_pos s)
theorem up_step {A C : List Nat} {k c s : Nat} (hkC : k < C.length) (hkA : k < A.length) (hv : val (C.take k) + pw k * c = val (A.take k) * 2 ^ s) :
    val ((C.set k (A.getD k 0 * 2 ^ s % 4294967296 + c)).take (k + 1)) + pw (k + 1) * (A.getD k 0 * 2 ^ s / 4294967296) = val (A.take (k + 1)) * 2 ^ s := by
  have e0 : ∀ y, val ((C.set k y).take (k + 1)) = val (C.take k) + pw k * y := by
    intro y
    rw [val_take_succ _ k (by simpa using hkC), set_take (Nat.le_refl _)]
    simp [List.getD_eq_getElem?_getD, hkC]
  have e1 : pw (k + 1) * (A.getD k 0 * 2 ^ s / 4294967296) = pw k * (4294967296 * (A.getD k 0 * 2 ^ s / 4294967296)) := by simp only [pw]; rw [← Nat.mul_assoc, Nat.mul_comm (pw k)]
  rw [e0, val_take_succ A k hkA, e1, Nat.add_mul, ← hv, Nat.mul_assoc (pw k)]
  have h1 := Nat.div_add_mod (A.getD k 0 * 2 ^ s) 4294967296
  generalize A.getD k 0 * 2 ^ s = X at *
  have h2 := congrArg (pw k * ·) h1
  simp only [Nat.mul_add] at h2 ⊢
  omega

/-- A limb of a shift to the right. -/
theorem down_limb {x s c : Nat} (hs : s < 32) (hx : x < 4294967296) : (x / 2 ^ s) ||| (2 ^ (32 - s) * c) = x / 2 ^ s + 2 ^ (32 - s) * c := by
  have h : x / 2 ^ s < 2 ^ (32 - s) := by
    rw [Nat.div_lt_iff_lt_mul (Nat.two_pow_pos s), ← Nat.pow_add, show 32 - s + s = 32 by omega]
    omega
  rw [Nat.or_comm, ← Nat.two_pow_add_eq_or_of_lt h, Nat.add_comm]
theorem down_carry {x s : Nat} (hs : s < 32) : x * 2 ^ (32 - s) % 4294967296 = 2 ^ (32 - s) * (x % 2 ^ s) := by
  have e : (4294967296 : Nat) = 2 ^ (32 - s) * 2 ^ s := by rw [← Nat.pow_add, show 32 - s + s = 32 by omega]
  rw [e, Nat.mul_comm x, Nat.mul_mod_mul_left]
theorem down_lt {x s c : Nat} (hs : s < 32) (hx : x < 4294967296) (hc : c < 2 ^ s) : x / 2 ^ s + 2 ^ (32 - s) * c < 4294967296 := by
  have h : x / 2 ^ s < 2 ^ (32 - s) := by
    rw [Nat.div_lt_iff_lt_mul (Nat.two_pow_pos s), ← Nat.pow_add, show 32 - s + s = 32 by omega]
    omega
  have e : (4294967296 : Nat) = 2 ^ (32 - s) * 2 ^ s := by rw [← Nat.pow_add, show 32 - s + s = 32 by omega]
  have h2 : 2 ^ (32 - s) * (c + 1) ≤ 2 ^ (32 - s) * 2 ^ s := Nat.mul_le_mul_left _ hc
  rw [← e, Nat.mul_add, Nat.mul_one] at h2
  omega
theorem down_step {s x c D VA : Nat} (hs : s < 32) (hv : VA = 2 ^ s * D + c) : x + 4294967296 * VA = 2 ^ s * ((x / 2 ^ s + 2 ^ (32 - s) * c) + 4294967296 * D) + x % 2 ^ s := by
  have e : 2 ^ s * 2 ^ (32 - s) = 4294967296 := by rw [← Nat.pow_add, show s + (32 - s) = 32 by omega]
  have h1 := Nat.div_add_mod x (2 ^ s)
  rw [hv]
  simp only [Nat.mul_add]
  rw [← Nat.mul_assoc (2 ^ s) (2 ^ (32 - s)) c, e]
  have e2 : 2 ^ s * (4294967296 * D) = 4294967296 * (2 ^ s * D) := by rw [← Nat.mul_assoc, Nat.mul_comm (2 ^ s), Nat.mul_assoc]
  rw [e2]
  omega
theorem down_end {s c D VA : Nat} (hv : VA = 2 ^ s * D + c) (hc : c < 2 ^ s) : D = VA / 2 ^ s := by
  rw [hv, Nat.mul_add_div (Nat.two_pow_pos s), Nat.div_eq_of_lt hc, Nat.add_zero]

/-- A divisor that is shifted up to its highest bit keeps its limbs, and has that bit. -/
theorem norm_lt {b : List Nat} {n s : Nat} (hok : ok b) (hl : b.length = n) (hn : 0 < n) (hs : s < 32) (hb : b.getD (n - 1) 0 * 2 ^ s < 4294967296) : val b * 2 ^ s < pw n := by
  have h1 := val_take_succ b (n - 1) (by omega)
  rw [show n - 1 + 1 = n by omega, List.take_of_length_le (by omega)] at h1
  have h2 := val_lt (ok_take hok (n - 1))
  rw [List.length_take, Nat.min_eq_left (by omega)] at h2
  have e : pw n = pw (n - 1) * 4294967296 := by rw [show n = (n - 1) + 1 by omega]; simp only [pw]; rw [Nat.mul_comm]; rfl
  have e1 : (4294967296 : Nat) = 2 ^ (32 - s) * 2 ^ s := by rw [← Nat.pow_add, show 32 - s + s = 32 by omega]
  have h3 : b.getD (n - 1) 0 + 1 ≤ 2 ^ (32 - s) := by
    rw [e1] at hb
    exact Nat.lt_of_mul_lt_mul_right hb
  have h4 : val b + 1 ≤ pw (n - 1) * (b.getD (n - 1) 0 + 1) := by rw [Nat.mul_add]; omega
  have h5 := Nat.mul_le_mul_right (2 ^ s) (Nat.le_trans h4 (Nat.mul_le_mul_left _ h3))
  rw [Nat.mul_assoc, ← e1, ← e, Nat.add_mul] at h5
  have := Nat.two_pow_pos s
  omega
theorem top_bit {b v : List Nat} {n s : Nat} (okb : ok b) (okv : ok v) (hb : b.length = n) (hv : v.length = n) (hn : 0 < n) (h : val v = val b * 2 ^ s) (ht : 4294967296 ≤ 2 * (b.getD (n - 1) 0 * 2 ^ s)) : 4294967296 ≤ 2 * v.getD (n - 1) 0 := by
  have h1 := val_take_succ b (n - 1) (by omega)
  rw [show n - 1 + 1 = n by omega, List.take_of_length_le (by omega)] at h1
  have h2 := val_take_succ v (n - 1) (by omega)
  rw [show n - 1 + 1 = n by omega, List.take_of_length_le (by omega)] at h2
  have h3 := val_lt (ok_take okv (n - 1))
  rw [List.length_take, Nat.min_eq_left (by omega)] at h3
  have h4 : pw (n - 1) * (b.getD (n - 1) 0 * 2 ^ s) ≤ val v := by
    rw [h, h1, Nat.add_mul, Nat.mul_assoc]
    omega
  have h5 : pw (n - 1) * (b.getD (n - 1) 0 * 2 ^ s) < pw (n - 1) * (v.getD (n - 1) 0 + 1) := by
    rw [Nat.mul_add]; omega
  have h6 := Nat.lt_of_mul_lt_mul_left h5
  omega
/-- The highest limbs of what is divided are below the divisor. -/
theorem first_lt {u v : List Nat} {la n s k VA : Nat} (hok : ok v) (hv : v.length = n) (hn : 0 < n) (hs : s < 32) (hla : n ≤ la) (hk : k = la - n + 1) (hu : u.length = la + 1) (hval : val u = VA * 2 ^ s) (hVA : VA < pw la) (ht : 4294967296 ≤ 2 * v.getD (n - 1) 0) : val (u.drop k) < val v := by
  have e : val u = val (u.take k) + pw k * val (u.drop k) := by
    conv => lhs; rw [← List.take_append_drop k u, val_append]
    rw [List.length_take, Nat.min_eq_left (by omega)]
  have h1 : VA * 2 ^ s < pw la * 2 ^ s := Nat.mul_lt_mul_of_pos_right hVA (Nat.two_pow_pos s)
  have h2 : pw la = pw k * pw (n - 1) := by rw [← pw_add]; congr 1; omega
  have h3 : pw k * val (u.drop k) < pw k * (pw (n - 1) * 2 ^ s) := by rw [← Nat.mul_assoc, ← h2]; omega
  have h4 := Nat.lt_of_mul_lt_mul_left h3
  have h5 : 2 ^ s ≤ 2147483648 := by
    have := Nat.pow_le_pow_right (show 0 < 2 by omega) (show s ≤ 31 by omega)
    simpa using this
  have h6 := val_take_succ v (n - 1) (by omega)
  rw [show n - 1 + 1 = n by omega, List.take_of_length_le (by omega)] at h6
  have h7 : pw (n - 1) * 2 ^ s ≤ pw (n - 1) * v.getD (n - 1) 0 := Nat.mul_le_mul_left _ (by omega)
  omega

/-- A round of long division: the part that is looked at. -/
theorem part_eq {C : List Nat} {i n V : Nat} (okC : ok C) (hi : i + n + 1 ≤ C.length) (hlt : val (C.drop (i + 1)) < V) (hV : V ≤ pw n) :
    val (C.drop (i + n + 1)) = 0 ∧ val ((C.drop i).take (n + 1)) = val (C.drop i) ∧ val (C.drop i) < V * 4294967296 := by
  have h1 := high_zero hlt hV (by simp; omega)
  rw [List.drop_drop] at h1
  have e : i + 1 + n = i + n + 1 := by omega
  rw [e] at h1
  have h2 := drop_val C i (by omega)
  have h3 := ok_getD okC i
  refine ⟨h1.1, ?_, by omega⟩
  have e2 : val (C.drop i) = val ((C.drop i).take (n + 1)) + pw (n + 1) * val (C.drop (i + n + 1)) := by
    conv => lhs; rw [← List.take_append_drop (n + 1) (C.drop i), val_append]
    rw [List.length_take, Nat.min_eq_left (by simp; omega), List.drop_drop, show i + (n + 1) = i + n + 1 by omega]
  rw [h1.1] at e2
  omega
theorem round_eq {U C Q A T : List Nat} {i q V : Nat} (hQ : i < Q.length) (hU : i < U.length) (hC : i < C.length) (ht : C.getD i 0 = U.getD i 0) (hv : val (U.drop (i + 1)) = val (Q.drop (i + 1)) * V + val (C.drop (i + 1))) (hA : val (C.drop i) = val A + q * V) (hT : val T = 0) :
    val (U.drop i) = val ((Q.set i q).drop i) * V + val (A ++ T) := by
  rw [set_drop hQ, val_append, hT, drop_val U i hU, hv]
  have h1 := drop_val C i hC
  simp only [val]
  rw [Nat.add_mul, Nat.mul_assoc]
  generalize val (Q.drop (i + 1)) * V = X at *
  omega
/-- The end of long division. -/
theorem div_end {a b q c r s n : Nat} {C : List Nat} (hb : 0 < b) (h : a * 2 ^ s = q * (b * 2 ^ s) + c) (hc : c < b * 2 ^ s) (hr : r = c / 2 ^ s) : a = q * b + r ∧ r < b := by
  have hp := Nat.two_pow_pos s
  have h1 : r < b := by rw [hr, Nat.div_lt_iff_lt_mul hp]; exact hc
  refine ⟨?_, h1⟩
  have e : (a - q * b) * 2 ^ s = c := by rw [Nat.sub_mul, Nat.mul_assoc]; omega
  have e2 : r = a - q * b := by rw [hr, ← e, Nat.mul_div_cancel _ hp]
  have h3 : q * b ≤ a := by
    have : q * b * 2 ^ s ≤ a * 2 ^ s := by rw [Nat.mul_assoc]; omega
    exact Nat.le_of_mul_le_mul_right this hp
  omega

end Go.Proofs.YtogdchddmjokmaaGreatDoor.Lm

namespace Go.Proofs.YtogdchddmjokmaaGreatDoor
open Go.RowKit Lm
set_option linter.unusedSimpArgs false
set_option linter.unusedVariables false
set_option maxRecDepth 100000

theorem tab8 (i : Nat) (h : i < Lib.len8tab.size) : ((Lib.len8tab[i].toNat : Nat) : Int) = (Lib.bitLen i : Int) := by
  have h2 : i < 256 := by rw [← Lib.len8tab_size]; exact h
  have h1 := Lib.len8_eq ⟨i, h2⟩
  unfold Lib.len8 at h1
  simp only [Int.toNat_natCast] at h1
  rw [← h1, getElem?_pos Lib.len8tab i h]
  rfl

theorem wrapSum (k : Int) (a b : Nat) (h : (b : Int) = k + (a : Int)) (h0 : 0 ≤ k) (hb : b ≤ 32) : wrap64 (k + wrap64 (a : Int)) = (b : Int) := by
  unfold wrap64; omega
theorem wrapTwo (b : Nat) (hb : b ≤ 32) : wrap64 (wrap64 (b : Int)) = (b : Int) := by
  unfold wrap64; omega

set_option maxHeartbeats 4000000 in
theorem len32_any (x : Int) (w : World) (h0 : 0 ≤ x) (h1 : x ≤ 4294967295) :
    Calls Tryz.prog 104 #[.int .u32 x] w fun e w' => e = .returned (.int .i64 (Lib.bitLen x.toNat)) ∧ w' = w := by
  have hsz : Lib.len8tab.size = 256 := Lib.len8tab_size
  go_enter Tryz.func104, Tryz.ntmps104
  go_wp2
  all_goals (go_ret; refine ⟨congrArg Ending.returned (congrArg (Value.int IntKind.i64) ?_), rfl⟩; rw [tab8])
  · have e : (x / 65536 / 256).toNat = x.toNat / 16777216 := by omega
    rw [e]
    exact wrapSum 24 _ _ (by rw [Lib.bitLen_shift24 x.toNat (by omega) (by omega), Int.natCast_add]; rfl) (by decide) (Lib.bitLen_le x.toNat 32 (by decide) (by omega))
  · have e : (x / 65536).toNat = x.toNat / 65536 := by omega
    rw [e]
    exact wrapSum 16 _ _ (by rw [Lib.bitLen_shift16 x.toNat (by omega) (by omega), Int.natCast_add]; rfl) (by decide) (Lib.bitLen_le x.toNat 32 (by decide) (by omega))
  · have e : (x / 256).toNat = x.toNat / 256 := by omega
    rw [e]
    exact wrapSum 8 _ _ (by rw [Lib.bitLen_shift8 x.toNat (by omega) (by omega), Int.natCast_add]; rfl) (by decide) (Lib.bitLen_le x.toNat 32 (by decide) (by omega))
  · exact wrapTwo _ (Lib.bitLen_le x.toNat 32 (by decide) (by omega))

theorem bitLen_spec (k x : Nat) (h0 : x ≠ 0) (hk : x < 2 ^ k) (h : x < 2 ^ 64) : 2 ^ (Lib.bitLen x - 1) ≤ x ∧ x < 2 ^ Lib.bitLen x ∧ 0 < Lib.bitLen x := by
  induction k generalizing x with
  | zero => simp at hk; omega
  | succ k ih =>
    have e := Lib.bitLen_half x h0 h
    by_cases h1 : x / 2 = 0
    · have hx : x = 1 := by omega
      subst hx
      decide
    · rw [Nat.pow_succ] at hk
      have h2 := ih (x / 2) h1 (by omega) (by omega)
      obtain ⟨m, hm⟩ : ∃ m, Lib.bitLen (x / 2) = m + 1 := ⟨Lib.bitLen (x / 2) - 1, by omega⟩
      rw [e, hm]
      rw [hm, Nat.add_sub_cancel, Nat.pow_succ] at h2
      rw [show 1 + (m + 1) - 1 = m + 1 by omega, show 1 + (m + 1) = m + 1 + 1 by omega, Nat.pow_succ, Nat.pow_succ]
      omega

set_option maxHeartbeats 800000 in
theorem lead_any (x : Nat) (w : World) (h0 : 0 < x) (h1 : x < 4294967296) :
    Calls Tryz.prog 87 #[.int .u32 (x : Int)] w fun e w' => ∃ s : Nat, e = .returned (.int .i64 (s : Int)) ∧ w' = w ∧ s < 32 ∧ x * 2 ^ s < 4294967296 ∧ 4294967296 ≤ 2 * (x * 2 ^ s) := by
  have hs := bitLen_spec 32 x (by omega) (by omega) (by omega)
  have hle := Lib.bitLen_le x 32 (by omega) (by omega)
  obtain ⟨b, hb⟩ : ∃ b, b = Lib.bitLen x := ⟨_, rfl⟩
  rw [← hb] at hs hle
  have HB := hid hb
  have hx1 : x * 2 ^ (32 - b) < 4294967296 := by
    have := Nat.mul_lt_mul_of_pos_right hs.2.1 (Nat.two_pow_pos (32 - b))
    rwa [← Nat.pow_add, show b + (32 - b) = 32 by omega] at this
  have hx2 : 4294967296 ≤ 2 * (x * 2 ^ (32 - b)) := by
    have := Nat.mul_le_mul_right (2 ^ (32 - b)) hs.1
    rw [← Nat.pow_add, show b - 1 + (32 - b) = 31 by omega] at this
    omega
  have H1 := hid hx1
  have H2 := hid hx2
  have hb0 := hs.2.2
  clear hx1 hx2 hs hb
  go_enter Tryz.func87, Tryz.ntmps87
  go_wp2_with fail
  refine (len32_any (x : Int) _ (by omega) (by omega)).mono ?_
  rintro e w1 ⟨rfl, rfl⟩
  rw [show ((x : Int)).toNat = x by omega, ← HB.out]
  go_wp2
  go_ret
  refine ⟨32 - b, ?_, rfl, by omega, H1.out, H2.out⟩
  exact ret_int (by omega)

/-- Limbs in a row of their own. -/
def Row (W : World) (L V : Nat) (g : Nat) (e : Ending) (w' : World) : Prop :=
  ∃ R : List Nat, e = .returned (.slice (some ⟨g, 0, none⟩) L L) ∧ RowAt w' g R ∧ R.length = L ∧ ok R ∧ val R = V ∧ Below W.heap.size W w'

set_option maxHeartbeats 3200000 in
theorem shiftedUp_any (w : World) (ao : Option Addr) (ca : Nat) (A : List Nat) (ha : SlAt w ao ca A) (hN : A.length ≤ 1000000) (s : Nat) (hs : s < 32) :
    Calls Tryz.prog 88 #[.slice ao A.length ca, .int .i64 (s : Int)] w (Row w (A.length + 1) (val A * 2 ^ s) w.heap.size) := by
  have hca := ha.2.2.1
  unfold maxLen at hca
  have hla := ha.2.1
  obtain ⟨i0, hi, hz0, hz1, hz2⟩ := info_parts Tryz.info32
  go_enter Tryz.func88, Tryz.ntmps88
  go_wp2_with (at_make; go_must (refine wpList_make_full _ rfl _ _ 22 rfl w.heap.size 55 i0 (.int .u32 0) 1 Tryz.underlying22 hi hz0 hz1 .i64 .i64 _ _ (A.length + 1) rfl rfl (by omega) (by omega) (by rw [hz2]; omega) (by unfold maxLen; omega) (by simp) ?_); intro w1 hown hgrow; rw [made32] at hown; obtain ⟨hrow, _⟩ := rowAt_of_own hown; have hb1 : Below w.heap.size w w1 := (Below.refl _ _).grown hgrow (Nat.le_refl _) (by simp); clear hown hgrow)
  go_loopw [6, 16] (fun cv i wr => ∃ (k c : Nat) (C : List Nat), k ≤ A.length ∧ i = .int .i64 (k : Int) ∧ cv = .int .u32 (c : Int) ∧ Hid (c < 2 ^ s) ∧ Hid (C.length = A.length + 1) ∧ ok C ∧ Hid (val (C.take k) + pw k * c = val (A.take k) * 2 ^ s) ∧ RowAt wr w.heap.size C ∧ Below w.heap.size w wr) (fun _ i wr => A.length - (intOf i).toNat)
  case atStart => exact ⟨0, 0, _, Nat.zero_le _, rfl, rfl, Nat.two_pow_pos s, by simp [Hid], ok_replicate _, by simp [val, Hid], hrow, hb1⟩
  case round =>
    obtain ⟨k, c, C, hk, rfl, rfl, HC, HL, hokC, HV, hrw, hbw⟩ := hrel
    by_cases hlt : k < A.length
    · rcases ha.2.2.2 with ⟨_, _⟩ | ⟨b, off, rfl, hltb, hcb⟩
      · omega
      have hx := (hbw.cell (p := ⟨b, off + k, none⟩) hltb).trans (hcb k hlt)
      have hxb := ok_getD ha.1 k
      have HT := hid (up_step (s := s) (C := C) (c := c) (by rw [HL.out]; omega) hlt HV.out)
      have hz : wr.cell? ⟨w.heap.size, k, none⟩ = some (.int .u32 ((C.getD k 0 : Nat) : Int)) := hrw.cell k (by rw [HL.out]; omega)
      have hfz := hrw.frozen k
      obtain ⟨x, hxe⟩ : ∃ x, x = A.getD k 0 := ⟨_, rfl⟩
      rw [← hxe] at hx hxb HT
      clear hxe hcb
      have hm : x * 2 ^ s < 18446744073709551616 := by
        have h1 : 2 ^ s ≤ 2147483648 := by
          have := Nat.pow_le_pow_right (show 0 < 2 by omega) (show s ≤ 31 by omega)
          simpa using this
        have := Nat.mul_le_mul (show x ≤ 4294967296 by omega) h1
        omega
      have HP := hid (up_limb (x := x) hs HC.out)
      have HQ := hid (up_carry (s := s) hxb)
      have hc32 : c < 4294967296 := by
        have h1 : 2 ^ s ≤ 2147483648 := by
          have := Nat.pow_le_pow_right (show 0 < 2 by omega) (show s ≤ 31 by omega)
          simpa using this
        have := HC.out
        omega
      have hq32 : x * 2 ^ s / 4294967296 < 4294967296 := by omega
      obtain ⟨m, hme⟩ : ∃ m, m = x * 2 ^ s := ⟨_, rfl⟩
      have HM : Hid ((x : Int) * 2 ^ s = (m : Int)) := hid (by rw [hme]; simp)
      rw [← hme] at HT HP HQ hm hq32
      have HO : Hid (bits BinOp.or IntKind.u32 (IntKind.u64.wrap (m : Int) % 4294967296) (c : Int) = ((m % 4294967296 + c : Nat) : Int)) := hid (by
        rw [IntKind.wrap_u64, show ((m : Int) % 18446744073709551616) % 4294967296 = ((m % 4294967296 : Nat) : Int) by omega]
        rw [u32_or_nat _ _ (by omega) (by omega), HP.out])
      have hlt2 : m % 4294967296 + c < 4294967296 := by
        rw [← HP.out]
        exact Nat.or_lt_two_pow (n := 32) (by omega) (by omega)
      have HC2 : Hid (IntKind.u64.wrap (m : Int) / 4294967296 % 4294967296 = ((m / 4294967296 : Nat) : Int)) := hid (by
        rw [IntKind.wrap_u64]; omega)
      clear hme
      go_wp2
      go_roundw
      case rel =>
        rw [HM.out, HO.out, HC2.out]
        exact ⟨k + 1, m / 4294967296, C.set k (m % 4294967296 + c), by omega, by go_num, rfl, HQ.out, by rw [Hid, List.length_set]; exact HL.out, ok_set hokC _ _ hlt2, HT.out, hrw.set k _, hbw.setCell (by simp) _⟩
      case measure => simp [intOf]; omega
    · have hkA : k = A.length := by omega
      subst hkA
      have hz : wr.cell? ⟨w.heap.size, A.length, none⟩ = some (.int .u32 ((C.getD A.length 0 : Nat) : Int)) := hrw.cell A.length (by rw [HL.out]; omega)
      have hfz := hrw.frozen A.length
      have HF : Hid (Row w (A.length + 1) (val A * 2 ^ s) w.heap.size (.returned (.slice (some ⟨w.heap.size, 0, none⟩) (A.length + 1) (A.length + 1))) (wr.setCell ⟨w.heap.size, A.length, none⟩ (.int .u32 (c : Int)))) := by
        refine ⟨C.set A.length c, rfl, hrw.set _ _, by rw [List.length_set]; exact HL.out, ok_set hokC _ _ ?_, ?_, hbw.setCell (by simp) _⟩
        · have h1 : 2 ^ s ≤ 2147483648 := by
            have := Nat.pow_le_pow_right (show 0 < 2 by omega) (show s ≤ 31 by omega)
            simpa using this
          have := HC.out
          omega
        · have h1 := take_set_succ (C := C) (k := A.length) (s := c) (by rw [HL.out]; omega)
          rw [List.take_of_length_le (by rw [List.length_set, HL.out]; omega)] at h1
          rw [h1, HV.out, List.take_length]
      go_wp2
      go_ret
      exact HF.out

end Go.Proofs.YtogdchddmjokmaaGreatDoor

namespace Go.Proofs.YtogdchddmjokmaaGreatDoor
open Go.RowKit Lm
set_option linter.unusedSimpArgs false
set_option linter.unusedVariables false
set_option maxRecDepth 100000

theorem down_t {x s : Nat} (hs : s < 32) : x * 4294967296 / 2 ^ s = x * 2 ^ (32 - s) := by
  have e : (4294967296 : Nat) = 2 ^ (32 - s) * 2 ^ s := by rw [← Nat.pow_add, show 32 - s + s = 32 by omega]
  rw [e, ← Nat.mul_assoc, Nat.mul_div_cancel _ (Nat.two_pow_pos s)]
theorem down_hi {x s : Nat} (hs : s < 32) : x * 2 ^ (32 - s) / 4294967296 = x / 2 ^ s := by
  have e : (4294967296 : Nat) = 2 ^ (32 - s) * 2 ^ s := by rw [← Nat.pow_add, show 32 - s + s = 32 by omega]
  rw [e, Nat.mul_comm x, Nat.mul_div_mul_left _ _ (Nat.two_pow_pos _)]

set_option maxHeartbeats 3200000 in
theorem shiftedDown_any (w : World) (ao : Option Addr) (ca ka : Nat) (A : List Nat) (hka : ka = A.length) (ha : SlAt w ao ca A) (hN : A.length ≤ 1000000) (s : Nat) (hs : s < 32) :
    Calls Tryz.prog 92 #[.slice ao ka ca, .int .i64 (s : Int)] w (Row w A.length (val A / 2 ^ s) w.heap.size) := by
  subst hka
  have hca := ha.2.2.1
  unfold maxLen at hca
  have hla := ha.2.1
  obtain ⟨i0, hi, hz0, hz1, hz2⟩ := info_parts Tryz.info32
  go_enter Tryz.func92, Tryz.ntmps92
  go_wp2_with (at_make; go_must (refine wpList_make_full _ rfl _ _ 22 rfl w.heap.size 55 i0 (.int .u32 0) 1 Tryz.underlying22 hi hz0 hz1 .i64 .i64 _ _ A.length rfl rfl (by omega) (by omega) (by rw [hz2]; omega) (by unfold maxLen; omega) (by simp) ?_); intro w1 hown hgrow; rw [made32] at hown; obtain ⟨hrow, _⟩ := rowAt_of_own hown; have hb1 : Below w.heap.size w w1 := (Below.refl _ _).grown hgrow (Nat.le_refl _) (by simp); clear hown hgrow)
  go_loopw [6, 7] (fun cv i wr => ∃ (k c d : Nat) (C : List Nat), k ≤ A.length ∧ i = .int .i64 ((k : Int) - 1) ∧ cv = .int .u32 (d : Int) ∧ d < 4294967296 ∧ Hid (d = 2 ^ (32 - s) * c) ∧ Hid (c < 2 ^ s) ∧ Hid (C.length = A.length) ∧ ok C ∧ Hid (val (A.drop k) = 2 ^ s * val (C.drop k) + c) ∧ RowAt wr w.heap.size C ∧ Below w.heap.size w wr) (fun _ i wr => (intOf i + 1).toNat)
  case atStart => exact ⟨A.length, 0, 0, _, Nat.le_refl _, rfl, rfl, by omega, by simp [Hid], Nat.two_pow_pos s, by simp [Hid], ok_replicate _, by simp [val, Hid], hrow, hb1⟩
  case round =>
    obtain ⟨k, c, d, C, hk, rfl, rfl, hd, HDc, HC, HL, hokC, HV, hrw, hbw⟩ := hrel
    by_cases hk0 : k = 0
    · subst hk0
      have HF : Hid (Row w A.length (val A / 2 ^ s) w.heap.size (.returned (.slice (some ⟨w.heap.size, 0, none⟩) A.length A.length)) wr) := by
        refine ⟨C, rfl, hrw, HL.out, hokC, ?_, hbw⟩
        have h1 := HV.out
        simp only [List.drop_zero] at h1
        exact down_end h1 HC.out
      go_wp2
      go_ret
      exact HF.out
    · rcases ha.2.2.2 with ⟨_, _⟩ | ⟨b, off, rfl, hltb, hcb⟩
      · omega
      have hx := (hbw.cell (p := ⟨b, off + (k - 1), none⟩) hltb).trans (hcb (k - 1) (by omega))
      have hxb := ok_getD ha.1 (k - 1)
      have HD := hid (drop_val A (k - 1) (by omega))
      have hz : wr.cell? ⟨w.heap.size, k - 1, none⟩ = some (.int .u32 ((C.getD (k - 1) 0 : Nat) : Int)) := hrw.cell (k - 1) (by rw [HL.out]; omega)
      have hfz := hrw.frozen (k - 1)
      obtain ⟨x, hxe⟩ : ∃ x, x = A.getD (k - 1) 0 := ⟨_, rfl⟩
      rw [← hxe] at hx hxb HD
      have HT := hid (down_t (x := x) hs)
      have HH := hid (down_hi (x := x) hs)
      have HR := hid (down_carry (x := x) hs)
      have HO := hid (down_limb (c := c) hs hxb)
      have HB := hid (down_lt hs hxb HC.out)
      have HX : Hid (x % 2 ^ s < 2 ^ s) := hid (Nat.mod_lt _ (Nat.two_pow_pos s))
      have HX2 : Hid (x / 2 ^ s < 4294967296) := hid (Nat.lt_of_le_of_lt (Nat.div_le_self _ _) hxb)
      clear hxe hcb
      go_wp2
      go_roundw
      case rel =>
        have e1 : (x : Int) * 4294967296 / 2 ^ s = ((x * 2 ^ (32 - s) : Nat) : Int) := by
          rw [← HT.out, Int.natCast_ediv, Int.natCast_mul, Int.natCast_pow]; rfl
        have e2 : ((x * 2 ^ (32 - s) : Nat) : Int) % 4294967296 = ((2 ^ (32 - s) * (x % 2 ^ s) : Nat) : Int) := by
          rw [← HR.out, Int.natCast_emod]; rfl
        have e3 : ((x * 2 ^ (32 - s) : Nat) : Int) / 4294967296 % 4294967296 = ((x / 2 ^ s : Nat) : Int) := by
          have h1 : ((x * 2 ^ (32 - s) : Nat) : Int) / 4294967296 = ((x / 2 ^ s : Nat) : Int) := by
            rw [← HH.out, Int.natCast_ediv]; rfl
          rw [h1]
          have := HX2.out
          generalize x / 2 ^ s = q at *
          omega
        have e4 : bits BinOp.or IntKind.u32 ((x / 2 ^ s : Nat) : Int) (d : Int) = ((x / 2 ^ s + d : Nat) : Int) := by
          rw [u32_or_nat _ _ HX2.out hd, HDc.out, HO.out]
        rw [e1, e2, e3, e4]
        have hb2 : x / 2 ^ s + d < 4294967296 := by rw [HDc.out]; exact HB.out
        refine ⟨k - 1, x % 2 ^ s, 2 ^ (32 - s) * (x % 2 ^ s), C.set (k - 1) (x / 2 ^ s + d), by omega, by go_num, rfl, by rw [← HR.out]; exact Nat.mod_lt _ (by omega), rfl, HX.out, by rw [Hid, List.length_set]; exact HL.out, ok_set hokC _ _ hb2, ?_, hrw.set _ _, hbw.setCell (by simp) _⟩
        show val (A.drop (k - 1)) = _
        rw [HD.out, set_drop (by rw [HL.out]; omega), show k - 1 + 1 = k by omega, HDc.out]
        simp only [val]
        exact down_step hs HV.out
      case measure => simp [intOf]; omega

end Go.Proofs.YtogdchddmjokmaaGreatDoor

namespace Go.Proofs.YtogdchddmjokmaaGreatDoor
open Go.RowKit Lm
set_option linter.unusedSimpArgs false
set_option linter.unusedVariables false
set_option maxRecDepth 100000

theorem sub_lim1 (z t : Nat) (hz : z < 4294967296) (ht : t ≤ 18446744069414584320) (h : (z : Int) < (t : Int) % 4294967296) :
    ((z : Int) - (t : Int)) % 4294967296 = ((z + 4294967296 - t % 4294967296 : Nat) : Int) ∧ t / 4294967296 + 1 < 4294967296 ∧ z + 4294967296 - t % 4294967296 < 4294967296 ∧ z + 4294967296 * (t / 4294967296 + 1) = z + 4294967296 - t % 4294967296 + t := by omega
theorem sub_lim0 (z t : Nat) (hz : z < 4294967296) (ht : t ≤ 18446744069414584320) (h : (t : Int) % 4294967296 ≤ (z : Int)) :
    ((z : Int) - (t : Int) % 4294967296) = ((z - t % 4294967296 : Nat) : Int) ∧ t / 4294967296 < 4294967296 ∧ z - t % 4294967296 < 4294967296 ∧ z + 4294967296 * (t / 4294967296) = z - t % 4294967296 + t := by omega

theorem end_sub {A C : List Nat} {n c z' ov X : Nat} (hA : A.length = n + 1) (hC : C.length = n + 1) (hv : val (A.take n) + pw n * c = val (C.take n) + X) (hs : A.getD n 0 + 4294967296 * ov = z' + c) : val A + pw A.length * ov = val (C.set n z') + X := by
  have h1 := val_take_succ A n (by omega)
  rw [List.take_of_length_le (by omega)] at h1
  have h2 := take_set_succ (C := C) (k := n) (s := z') (by omega)
  rw [List.take_of_length_le (by rw [List.length_set]; omega)] at h2
  rw [h1, h2, hA, pw_succ_mul]
  have h3 := congrArg (pw n * ·) hs
  simp only [Nat.mul_add] at h3
  omega

/-- What subTimes tells. -/
def SubPost (w : World) (g : Nat) (P A T V : List Nat) (x : Nat) (e : Ending) (w' : World) : Prop :=
  ∃ (A' : List Nat) (ov : Nat) (b : Bool), e = .returned (.bool b) ∧ Hid (b = decide (ov = 1)) ∧ ov ≤ 1 ∧ RowAt w' g (P ++ (A' ++ T)) ∧ A'.length = A.length ∧ ok A' ∧ val A + pw A.length * ov = val A' + x * val V ∧ w.grownBy w' (some g)

set_option maxHeartbeats 3200000 in
theorem subTimes_any (w : World) (g o cap ka : Nat) (P A T : List Nat) (bo : Option Addr) (cb kb : Nat) (V : List Nat) (x : Nat) (ho : o = P.length) (hka : ka = A.length) (hkb : kb = V.length) (hrow : RowAt w g (P ++ (A ++ T))) (hok : ok A) (hl : A.length ≤ 2000000) (hc : A.length ≤ cap) (hcm : cap ≤ 9223372036854775807)
    (hB : SlAt w bo cb V) (hne : 0 < V.length → ∀ ad, bo = some ad → ad.block ≠ g) (hVA : A.length = V.length + 1) (hx : x < 4294967296) :
    Calls Tryz.prog 90 #[.slice (some ⟨g, o, none⟩) ka cap, .slice bo kb cb, .int .u32 (x : Int)] w (SubPost w g P A T V x) := by
  subst hka hkb
  have HO := hid ho
  have HNE := hid hne
  have HVA := hid hVA
  have hcB := hB.2.2.1
  have hlB := hB.2.1
  unfold maxLen at hcB
  have hle : V.length < A.length := by omega
  clear ho hne hVA
  go_enter Tryz.func90, Tryz.ntmps90
  go_wp2
  go_loopw [7, 16] (fun s i wr => ∃ (k c : Nat) (C : List Nat), k ≤ V.length ∧ i = .int .i64 (k : Int) ∧ s = .int .u64 (c : Int) ∧ c < 4294967296 ∧ Hid (C.length = A.length) ∧ ok C ∧ Hid (C.drop k = A.drop k) ∧ Hid (val (A.take k) + pw k * c = val (C.take k) + x * val (V.take k)) ∧ RowAt wr g (P ++ (C ++ T)) ∧ w.grownBy wr (some g)) (fun s i wr => V.length - (intOf i).toNat)
  case atStart => exact ⟨0, 0, A, Nat.zero_le _, rfl, rfl, by omega, rfl, hok, rfl, by simp [val, Hid], hrow, grow_refl _ _⟩
  case round =>
    obtain ⟨k, c, C, hk, rfl, rfl, hc1, HL, hokC, HD, HV, hrw, hgw⟩ := hrel
    by_cases hlt : k < V.length
    · rcases hB.2.2.2 with ⟨_, _⟩ | ⟨b, off, rfl, hltb, hcb⟩
      · omega
      have hy : wr.cell? ⟨b, off + k, none⟩ = some (.int .u32 ((V.getD k 0 : Nat) : Int)) := (World.cell?_of_block (w := w) (a := ⟨b, off + k, none⟩) (hgw.block b hltb (by simpa using HNE.out (by omega) _ rfl))).trans (hcb k hlt)
      have hz : wr.cell? ⟨g, o + k, none⟩ = some (.int .u32 ((A.getD k 0 : Nat) : Int)) := by
        rw [hrw.cellO HO.out (by rw [HL.out]; omega), drop_getD HD.out]
      have hfz := hrw.frozen (o + k)
      have hzb := ok_getD hok k
      have hyb := ok_getD hB.1 k
      obtain ⟨z, hze⟩ : ∃ z, z = A.getD k 0 := ⟨_, rfl⟩
      obtain ⟨y, hye⟩ : ∃ y, y = V.getD k 0 := ⟨_, rfl⟩
      rw [← hze] at hz hzb
      rw [← hye] at hy hyb
      have HZ := hid hze
      have HY := hid hye
      have hm := mul_bound hx hyb
      obtain ⟨m, hme⟩ : ∃ m, m = x * y := ⟨_, rfl⟩
      rw [← hme] at hm
      have HM := hid hme
      have hmi : (x : Int) * (y : Int) = (m : Int) := by rw [hme]; simp
      clear hze hye hcb hme
      obtain ⟨t, hte⟩ : ∃ t, t = m + c := ⟨_, rfl⟩
      have hti : (m : Int) + (c : Int) = (t : Int) := by omega
      have htb : t ≤ 18446744069414584320 := by omega
      have HT : Hid (t = x * y + c) := hid (by rw [← HM.out, hte])
      clear hte
      go_wp2
      · have h1 : (z : Int) < (t : Int) % 4294967296 := by first | assumption | (rw [← hti]; assumption)
        have HB := hid (sub_lim1 z t hzb htb h1)
        clear hm
        go_roundw
        case rel =>
          first | rw [hti] | skip
          rw [HB.out.1]
          refine ⟨k + 1, t / 4294967296 + 1, C.set k (z + 4294967296 - t % 4294967296), hlt, by go_num, by go_num, HB.out.2.1, by rw [Hid, List.length_set]; exact HL.out, ok_set hokC _ _ HB.out.2.2.1, set_drop_succ HD.out, ?_, hrw.setO HO.out (by rw [HL.out]; omega), grow_set hgw _ _⟩
          exact times_sub (t := 0) (by rw [HL.out]; omega) (by omega) hlt HV.out (by rw [← HZ.out, ← HY.out]; have e1 := HB.out.2.2.2; have e2 := HT.out; omega)
        case measure => simp [intOf]; omega
      · have h1 : (t : Int) % 4294967296 ≤ (z : Int) := by first | assumption | (rw [← hti]; assumption)
        have HB := hid (sub_lim0 z t hzb htb h1)
        clear hm
        go_roundw
        case rel =>
          first | rw [hti] | skip
          rw [HB.out.1]
          refine ⟨k + 1, t / 4294967296, C.set k (z - t % 4294967296), hlt, by go_num, by go_num, HB.out.2.1, by rw [Hid, List.length_set]; exact HL.out, ok_set hokC _ _ HB.out.2.2.1, set_drop_succ HD.out, ?_, hrw.setO HO.out (by rw [HL.out]; omega), grow_set hgw _ _⟩
          exact times_sub (t := 0) (by rw [HL.out]; omega) (by omega) hlt HV.out (by rw [← HZ.out, ← HY.out]; have e1 := HB.out.2.2.2; have e2 := HT.out; omega)
        case measure => simp [intOf]; omega
    · have hkB : k = V.length := by omega
      subst hkB
      have hz : wr.cell? ⟨g, o + V.length, none⟩ = some (.int .u32 ((A.getD V.length 0 : Nat) : Int)) := by
        rw [hrw.cellO HO.out (by rw [HL.out]; omega), drop_getD HD.out]
      have hfz := hrw.frozen (o + V.length)
      have hzb := ok_getD hok V.length
      obtain ⟨z, hze⟩ : ∃ z, z = A.getD V.length 0 := ⟨_, rfl⟩
      rw [← hze] at hz hzb
      have HZ := hid hze
      clear hze
      by_cases hzc : z < c
      · have HS := hid (show A.getD V.length 0 + 4294967296 * 1 = (z + 4294967296 - c) + c by rw [← HZ.out]; simp; omega)
        have e1 : ((z : Int) - (c : Int)) % 4294967296 = ((z + 4294967296 - c : Nat) : Int) := by omega
        have HE := hid e1
        have hb : z + 4294967296 - c < 4294967296 := by omega
        clear e1
        go_wp2
        refine bodyPost_ret (v := .bool true) (by simp [results, Tryz.results90, go_sem, hzc]) rfl ?_
        rw [HE.out]
        exact ⟨C.set V.length (z + 4294967296 - c), 1, true, rfl, rfl, by omega, hrw.setO HO.out (by rw [HL.out]; omega), by rw [List.length_set]; exact HL.out, ok_set hokC _ _ hb, end_sub HVA.out (by rw [HL.out, HVA.out]) (by have := HV.out; rwa [List.take_length] at this) HS.out, grow_set hgw _ _⟩
      · have HS := hid (show A.getD V.length 0 + 4294967296 * 0 = (z - c) + c by rw [← HZ.out]; simp; omega)
        have HE : Hid ((z : Int) - (c : Int) = ((z - c : Nat) : Int)) := hid (by omega)
        have hb : z - c < 4294967296 := by omega
        go_wp2
        refine bodyPost_ret (v := .bool false) (by simp [results, Tryz.results90, go_sem, hzc]) rfl ?_
        rw [HE.out]
        exact ⟨C.set V.length (z - c), 0, false, rfl, rfl, by omega, hrw.setO HO.out (by rw [HL.out]; omega), by rw [List.length_set]; exact HL.out, ok_set hokC _ _ hb, end_sub HVA.out (by rw [HL.out, HVA.out]) (by have := HV.out; rwa [List.take_length] at this) HS.out, grow_set hgw _ _⟩

end Go.Proofs.YtogdchddmjokmaaGreatDoor

namespace Go.Proofs.YtogdchddmjokmaaGreatDoor
open Go.RowKit Lm
set_option linter.unusedSimpArgs false
set_option linter.unusedVariables false
set_option maxRecDepth 100000

/-- What guess tells: the limb, or one more. -/
def GuessPost (w : World) (UU VV : Nat) (e : Ending) (w' : World) : Prop :=
  ∃ q : Nat, e = .returned (.int .u32 (q : Int)) ∧ q < 4294967296 ∧ UU < (q + 1) * VV ∧ q * VV ≤ UU + VV ∧ Below w.heap.size w w'

/-- What stands at the head of a round of guess. -/
def GRel (vh top UU VV : Nat) (qv rv : Value) : Prop := ∃ q r : Nat, qv = .int .u64 (q : Int) ∧ rv = .int .u64 (r : Int) ∧ q ≤ 4294967297 ∧ r < 4294967296 ∧ Hid (q * vh + r = top) ∧ Hid (UU < (q + 1) * VV)

set_option maxHeartbeats 3200000 in
theorem guess_any (w : World) (ao : Option Addr) (ca ku : Nat) (U' : List Nat) (bo : Option Addr) (cb kv : Nat) (V : List Nat) (n : Nat) (hu : SlAt w ao ca U') (hv : SlAt w bo cb V) (hku : ku = U'.length) (hkv : kv = V.length) (hU : U'.length = n + 1) (hV : V.length = n) (hn : 2 ≤ n) (ht : 4294967296 ≤ 2 * V.getD (n - 1) 0) (hlt : val U' < val V * 4294967296) :
    Calls Tryz.prog 89 #[.slice ao ku ca, .slice bo kv cb] w (GuessPost w (val U') (val V)) := by
  have hT := tops_of hu.1 hv.1 hU hV hn ht hlt
  have hca := hu.2.2.1
  have hcb := hv.2.2.1
  unfold maxLen at hca hcb
  have hla := hu.2.1
  have hlb := hv.2.1
  have hu1 := ok_getD hu.1 (n - 1)
  have hu2 := ok_getD hu.1 (n - 2)
  have hu0 := ok_getD hu.1 n
  have hvn := ok_getD hv.1 (n - 2)
  have hvh := ok_getD hv.1 (n - 1)
  rcases hu.2.2.2 with ⟨_, _⟩ | ⟨b1, o1, rfl, hl1, hc1⟩
  · omega
  rcases hv.2.2.2 with ⟨_, _⟩ | ⟨b2, o2, rfl, hl2, hc2⟩
  · omega
  have x0 := hc1 n (by omega)
  have x1 := hc1 (n - 1) (by omega)
  have x2 := hc1 (n - 2) (by omega)
  have y1 := hc2 (n - 1) (by omega)
  have y2 := hc2 (n - 2) (by omega)
  rw [hku, hkv, hU, hV]
  rw [hU] at hla
  rw [hV] at hlb
  obtain ⟨u0, e0⟩ : ∃ u, u = U'.getD n 0 := ⟨_, rfl⟩
  obtain ⟨u1, e1⟩ : ∃ u, u = U'.getD (n - 1) 0 := ⟨_, rfl⟩
  obtain ⟨u2, e2⟩ : ∃ u, u = U'.getD (n - 2) 0 := ⟨_, rfl⟩
  obtain ⟨vh, e3⟩ : ∃ u, u = V.getD (n - 1) 0 := ⟨_, rfl⟩
  obtain ⟨vn, e4⟩ : ∃ u, u = V.getD (n - 2) 0 := ⟨_, rfl⟩
  rw [← e0] at x0 hT hu0
  rw [← e1] at x1 hT hu1
  rw [← e2] at x2 hT hu2
  rw [← e3] at y1 hT hvh ht
  rw [← e4] at y2 hT hvn
  have HT := hid hT
  have hq0 := hT.q_le hu1
  have hu0v := hT.top_lt
  clear e0 e1 e2 e3 e4 hc1 hc2 hT hlt hku hkv hU hV
  obtain ⟨top, hte⟩ : ∃ t, t = u1 + 4294967296 * u0 := ⟨_, rfl⟩
  rw [← hte] at hq0
  have htb : top < 18446744073709551616 := by omega
  have HTE := hid hte
  have HOR : Hid (bits BinOp.or IntKind.u64 ((u0 : Int) * 4294967296) (u1 : Int) = (top : Int)) := hid (by
    rw [show (u0 : Int) * 4294967296 = ((u0 * 4294967296 : Nat) : Int) by omega, u64_or_nat _ _ (by omega) (by omega), nat_join 32 _ _ (by omega) (by omega), hte]
    omega)
  clear hte
  go_enter Tryz.func89, Tryz.ntmps89
  go_wp2
  go_quiet (fail)
  go_wp2
  go_quiet (fail)
  go_wp2
  rw [HOR.out]
  go_quiet (fail)
  go_wp2
  go_loop [9, 10] (fun qv rv => GRel vh top (val U') (val V) qv rv) (fun qv rv => (intOf qv).toNat)
  case atStart =>
    refine ⟨top / vh, top % vh, ?_, ?_, hq0, Nat.lt_trans (Nat.mod_lt _ (by omega)) hvh, ?_, ?_⟩
    · have e : (top : Int) / (vh : Int) = ((top / vh : Nat) : Int) := by rw [Int.natCast_ediv]
      rw [e, IntKind.wrap_u64]
      generalize top / vh = q at *
      congr 1
      omega
    · rw [Int.natCast_emod]
    · show top / vh * vh + top % vh = top
      rw [Nat.mul_comm]; exact Nat.div_add_mod top vh
    · have := HT.out.first
      rw [← HTE.out] at this
      exact this
  case round =>
    obtain ⟨q, r, rfl, rfl, hqb, hrb, HQ, HU⟩ := hrel
    obtain ⟨m, hme⟩ : ∃ m, m = q * vn := ⟨_, rfl⟩
    have hmb : m ≤ 18446744073709551615 := by
      rw [hme]
      have := Nat.mul_le_mul hqb (show vn ≤ 4294967295 by omega)
      omega
    have HM := hid hme
    have hmi : (q : Int) * (vn : Int) = (m : Int) := by rw [hme]; simp
    obtain ⟨s, hse⟩ : ∃ s, s = r * 4294967296 + u2 := ⟨_, rfl⟩
    have hor : bits BinOp.or IntKind.u64 ((r : Int) * 4294967296) (u2 : Int) = (s : Int) := by
      rw [show (r : Int) * 4294967296 = ((r * 4294967296 : Nat) : Int) by omega, u64_or_nat _ _ (by omega) (by omega), nat_join 32 _ _ (by omega) (by omega), hse]
    have HS := hid hse
    have HTT := HT.out
    rw [← HTE.out] at HTT
    clear hme hse
    by_cases hgo : 4294967296 ≤ q ∨ s < m
    · have HU2 : Hid (val U' < q * val V) := hid (by
        rcases hgo with h | h
        · exact HTT.dec2 h
        · exact HTT.dec HQ.out (by rw [← HM.out, ← HS.out]; exact h))
      have hq1 : 1 ≤ q := by
        rcases hgo with h | h
        · omega
        · rcases Nat.eq_zero_or_pos q with h0 | h0
          · have := HM.out; rw [h0] at this; simp at this; omega
          · exact h0
      have HQ2 : Hid ((q - 1) * vh + (r + vh) = top) := hid (by
        obtain ⟨p, rfl⟩ : ∃ p, q = p + 1 := ⟨q - 1, by omega⟩
        have := HQ.out
        rw [Nat.add_mul, Nat.one_mul] at this
        rw [Nat.add_sub_cancel]
        omega)
      have HU3 : Hid (val U' < (q - 1 + 1) * val V) := hid (by rw [show q - 1 + 1 = q by omega]; exact HU2.out)
      by_cases hbr : r + vh < 4294967296
      · clear HTT
        rcases hgo with h | h
        · have h1 : ¬ (q : Int) ≤ 4294967295 := by omega
          go_wp2
          go_round
          case rel => exact ⟨q - 1, r + vh, by go_num, by go_num, by omega, hbr, HQ2, HU3⟩
          case measure => simp [intOf]; omega
        · by_cases h' : 4294967296 ≤ q
          · have h1 : ¬ (q : Int) ≤ 4294967295 := by omega
            go_wp2
            go_round
            case rel => exact ⟨q - 1, r + vh, by go_num, by go_num, by omega, hbr, HQ2, HU3⟩
            case measure => simp [intOf]; omega
          · go_wp2
            go_round
            case rel => exact ⟨q - 1, r + vh, by go_num, by go_num, by omega, hbr, HQ2, HU3⟩
            case measure => simp [intOf]; omega
      · have HB := hid (Tops.broke HT.out hu1 (by rw [← HTE.out]; exact HQ2.out) (show 4294967296 ≤ r + vh by omega))
        have HE : Hid ((q - 1) * val V ≤ val U' + val V) := hid (Tops.fin HTT HQ2.out HB.out.2 (by have := HB.out.1; omega))
        have hql := HB.out.1
        clear HTT HB
        by_cases h' : 4294967296 ≤ q
        · have h1 : ¬ (q : Int) ≤ 4294967295 := by omega
          go_wp2
          go_ret
          exact ⟨q - 1, ret_u32 (by omega), hql, HU3.out, HE.out, (by repeat (first | exact Below.refl _ _ | refine Below.alloc ?_ ?_ _ | refine Below.setCell ?_ ?_ _ | refine Below.drew ?_ | refine below_drewN ?_ _ | (· simp) | omega | (· simp; omega) | exact Below.size (by assumption) | assumption | refine below_call ?_ (by assumption) ?_))⟩
        · have h : s < m := by omega
          go_wp2
          go_ret
          exact ⟨q - 1, ret_u32 (by omega), hql, HU3.out, HE.out, (by repeat (first | exact Below.refl _ _ | refine Below.alloc ?_ ?_ _ | refine Below.setCell ?_ ?_ _ | refine Below.drew ?_ | refine below_drewN ?_ _ | (· simp) | omega | (· simp; omega) | exact Below.size (by assumption) | assumption | refine below_call ?_ (by assumption) ?_))⟩
    · have HE : Hid (q * val V ≤ val U' + val V) := hid (Tops.fin HTT HQ.out (by rw [← HM.out, ← HS.out]; omega) (by omega))
      have hql : q < 4294967296 := by omega
      have hsm : m ≤ s := by omega
      clear HTT
      go_wp2
      go_ret
      exact ⟨q, ret_u32 (by omega), hql, HU.out, HE.out, (by repeat (first | exact Below.refl _ _ | refine Below.alloc ?_ ?_ _ | refine Below.setCell ?_ ?_ _ | refine Below.drew ?_ | refine below_drewN ?_ _ | (· simp) | omega | (· simp; omega) | exact Below.size (by assumption) | assumption | refine below_call ?_ (by assumption) ?_))⟩

end Go.Proofs.YtogdchddmjokmaaGreatDoor

namespace Go.Proofs.YtogdchddmjokmaaGreatDoor
open Go.RowKit Lm
set_option linter.unusedSimpArgs false
set_option linter.unusedVariables false
set_option maxRecDepth 100000

/-- What stands at the head of a round of long division. -/
structure DivAt (W wr : World) (gU gV gQ L n VV k : Nat) (U0 R2 C Q : List Nat) : Prop where
  hk : k ≤ L - n + 1
  lc : C.length = L + 1
  okc : ok C
  lq : Q.length = L - n + 1
  okq : ok Q
  ev : val (U0.drop k) = val (Q.drop k) * VV + val (C.drop k)
  lt : val (C.drop k) < VV
  tk : C.take k = U0.take k
  ru : RowAt wr gU C
  rv : RowAt wr gV R2
  rq : RowAt wr gQ Q
  bl : Below W.heap.size W wr
def DivRel (W : World) (gU gV gQ L n VV : Nat) (U0 R2 : List Nat) (iv : Value) (wr : World) : Prop :=
  ∃ (k : Nat) (C Q : List Nat), iv = .int .i64 ((k : Int) - 1) ∧ DivAt W wr gU gV gQ L n VV k U0 R2 C Q

/-- The next round. -/
theorem divAt_step {W wr w5 : World} {gU gV gQ L n VV j q : Nat} {U0 R2 C Q A2 : List Nat} (h : DivAt W wr gU gV gQ L n VV (j + 1) U0 R2 C Q) (hn : n ≤ L) (hu : U0.length = L + 1) (hVV : VV ≤ pw n)
    (hA : val ((C.drop j).take (n + 1)) = val A2 + q * VV) (hlt : val A2 < VV) (okA : ok A2) (lA : A2.length = n + 1) (hq : q < 4294967296) (hne1 : gU ≠ gQ) (hne2 : gV ≠ gQ) (hgQ : W.heap.size ≤ gQ)
    (ru : RowAt w5 gU (C.take j ++ (A2 ++ C.drop (j + n + 1)))) (rv : RowAt w5 gV R2) (rq : RowAt w5 gQ Q) (bl : Below W.heap.size W w5) :
    DivAt W (w5.setCell ⟨gQ, j, none⟩ (.int .u32 (q : Int))) gU gV gQ L n VV j U0 R2 (C.take j ++ (A2 ++ C.drop (j + n + 1))) (Q.set j q) := by
  have hk := h.hk
  have hlc := h.lc
  have hlq := h.lq
  have hp := part_eq h.okc (by rw [hlc]; omega) h.lt hVV
  have htl : (C.take j).length = j := by simp; omega
  have hd : (C.take j ++ (A2 ++ C.drop (j + n + 1))).drop j = A2 ++ C.drop (j + n + 1) := by
    rw [List.drop_append_of_le_length (by omega), List.drop_of_length_le (by omega), List.nil_append]
  refine ⟨by omega, ?_, ?_, by rw [List.length_set]; exact hlq, ok_set h.okq _ _ hq, ?_, ?_, ?_, ?_, ?_, rq.set _ _, bl.setCell hgQ _⟩
  · simp only [List.length_append, htl, lA, List.length_drop, hlc]; omega
  · exact ok_append.2 ⟨ok_take h.okc _, ok_append.2 ⟨okA, ok_drop h.okc _⟩⟩
  · rw [hd]
    exact round_eq (C := C) (by omega) (by omega) (by omega) (take_getD h.tk (by omega)) h.ev (by rw [← hp.2.1]; exact hA) hp.1
  · rw [hd, val_append, hp.1]; omega
  · rw [List.take_append_of_le_length (by omega), List.take_of_length_le (by omega)]
    have := congrArg (List.take j) h.tk
    simpa [List.take_take] using this
  · exact (heap_setCell_other w5 ⟨gQ, j, none⟩ gU _ hne1).trans ru
  · exact (heap_setCell_other w5 ⟨gQ, j, none⟩ gV _ hne2).trans rv

theorem below_grown {W w w' : World} {g : Nat} (h : Below W.heap.size W w) (hg : w.grownBy w' (some g)) (hgl : W.heap.size ≤ g) : Below W.heap.size W w' :=
  h.grown hg h.size (by intro k e; simp at e; omega)

theorem addInto_kk (w : World) (g o cap ka : Nat) (P A T : List Nat) (bo : Option Addr) (cb kb : Nat) (B : List Nat) (ho : o = P.length) (hka : ka = A.length) (hkb : kb = B.length) (hrow : RowAt w g (P ++ (A ++ T))) (hok : ok A) (hl : A.length ≤ 2000000) (hc : A.length ≤ cap) (hcm : cap ≤ 9223372036854775807)
    (hB : SlAt w bo cb B) (hne : 0 < B.length → ∀ ad, bo = some ad → ad.block ≠ g) (hBA : B.length ≤ A.length) :
    Calls Tryz.prog 91 #[.slice (some ⟨g, o, none⟩) ka cap, .slice bo kb cb] w fun e w' => ∃ (A' : List Nat) (c : Nat), e = .returned (.int .u32 (c : Int)) ∧ RowAt w' g (P ++ (A' ++ T)) ∧ A'.length = A.length ∧ ok A' ∧ val A' + pw A.length * c = val A + val B ∧ c ≤ 1 ∧ w.grownBy w' (some g) := by
  subst hkb
  exact addInto_k w g o cap ka P A T bo cb B ho hka hrow hok hl hc hcm hB hne hBA

set_option maxHeartbeats 6400000 in
theorem divLong_any (W : World) (ao : Option Addr) (ca : Nat) (la : List Nat) (bo : Option Addr) (cb : Nat) (lb : List Nat) (ha : SlAt W ao ca la) (hb : SlAt W bo cb lb) (hcb : canon lb) (hn : 2 ≤ lb.length) (hle : lb.length ≤ la.length) (hN : la.length ≤ 999999) :
    Calls Tryz.prog 69 #[.slice ao la.length ca, .slice bo lb.length cb] W (DivPost W la lb) := by
  have hca := ha.2.2.1
  have hcb2 := hb.2.2.1
  have hla := ha.2.1
  have hlb := hb.2.1
  unfold maxLen at hca hcb2
  obtain ⟨i0, hi, hz0, hz1, hz2⟩ := info_parts Tryz.info32
  have htop := canon_last hcb (by omega)
  have htb := ok_getD hb.1 (lb.length - 1)
  have hcell : ∃ b off, bo = some ⟨b, off, none⟩ ∧ b < W.heap.size ∧ W.cell? ⟨b, off + (lb.length - 1), none⟩ = some (.int .u32 ((lb.getD (lb.length - 1) 0 : Nat) : Int)) := by
    rcases hb.2.2.2 with ⟨_, _⟩ | ⟨b, off, rfl, hltb, hc⟩
    · omega
    · exact ⟨b, off, rfl, hltb, hc _ (by omega)⟩
  obtain ⟨b, off, rfl, hltb, hc1⟩ := hcell
  obtain ⟨t, hte⟩ : ∃ t, t = lb.getD (lb.length - 1) 0 := ⟨_, rfl⟩
  rw [← hte] at hc1 htop htb
  have HTE := hid hte
  have ht0 : 0 < t := by omega
  clear hte htop
  go_enter Tryz.func69, Tryz.ntmps69
  go_wp2_with fail
  refine (lead_any t _ ht0 htb).mono ?_
  rintro e w1 ⟨s, rfl, rfl, hs, hs1, hs2⟩
  rw [HTE.out] at hs1 hs2
  have HS1 := hid hs1
  have HS2 := hid hs2
  clear hs1 hs2
  go_wp2_with fail
  refine (shiftedUp_any _ ao ca la ha (by omega) s hs).mono ?_
  rintro e w2 ⟨U0, rfl, hr2, hl2, hok2, hv2, hb2⟩
  have HL2 := hid hl2
  have HV2 := hid hv2
  clear hl2 hv2
  go_wp2_with fail
  refine (shiftedUp_any _ _ cb lb (hb.below hb2) (by omega) s hs).mono ?_
  rintro e w3 ⟨R2, rfl, hr3, hl3, hok3, hv3, hb3⟩
  have hr2' := hr2.below hb3
  have hg2 := hr2.lt
  have hg3 := hr3.lt
  have hW3 : Below w1.heap.size w1 w3 := below_call hb2 hb3 hb2.size
  have hnorm := norm_lt hb.1 rfl (by omega) hs HS1.out
  have HHZ := hid (high_zero (C := R2) (n := lb.length) (by rw [hv3]; exact hnorm) (Nat.le_refl _) (by rw [hl3]; omega))
  have HVV : Hid (val (R2.take lb.length) = val lb * 2 ^ s) := hid (by rw [HHZ.out.2, hv3])
  have hVok : ok (R2.take lb.length) := ok_take hok3 _
  have hVl : (R2.take lb.length).length = lb.length := by simp; omega
  have HTB := hid (top_bit hb.1 hVok rfl hVl (by omega) HVV.out HS2.out)
  have HFL := hid (first_lt hVok hVl (by omega) hs hle rfl HL2.out HV2.out (val_lt ha.1) HTB.out)
  have hVVle : val (R2.take lb.length) ≤ pw lb.length := by have := val_lt hVok; rw [hVl] at this; omega
  have HVL := hid hVl
  have HVVle := hid hVVle
  have HL3 := hid hl3
  have HN := hid hnorm
  clear hl3 hv3 hVl hVVle hnorm
  go_wp2_with (at_make; go_must (refine wpList_make_full _ rfl _ _ 22 rfl w3.heap.size 55 i0 (.int .u32 0) 1 Tryz.underlying22 hi hz0 hz1 .i64 .i64 _ _ (la.length - lb.length + 1) rfl rfl (by omega) (by omega) (by rw [hz2]; omega) (by unfold maxLen; omega) (by simp) ?_); intro w4 hown hgrow; rw [made32] at hown; obtain ⟨hrow4, _⟩ := rowAt_of_own hown; have hb4 : Below w3.heap.size w3 w4 := (Below.refl _ _).grown hgrow (Nat.le_refl _) (by simp); clear hown hgrow)
  have hW4 : Below w1.heap.size w1 w4 := below_call hW3 hb4 hW3.size
  have hD0 : DivAt w1 w4 w1.heap.size w2.heap.size w3.heap.size la.length lb.length (val (R2.take lb.length)) (la.length - lb.length + 1) U0 R2 U0 (List.replicate (la.length - lb.length + 1) 0) :=
    ⟨Nat.le_refl _, HL2.out, hok2, by simp, ok_replicate _, by rw [List.drop_of_length_le (l := List.replicate _ _) (by simp)]; simp [val], HFL.out, rfl, hr2'.below hb4, hr3.below hb4, hrow4, hW4⟩
  have HD0 := hid hD0
  clear hD0 hr2 hr2' hr3 hrow4 hW3 hb4 hb3
  go_loopw [10] (fun iv wr => DivRel w1 w1.heap.size w2.heap.size w3.heap.size la.length lb.length (val (R2.take lb.length)) U0 R2 iv wr) (fun iv wr => (intOf iv + 1).toNat)
  case atStart => exact ⟨la.length - lb.length + 1, U0, _, by go_num, HD0.out⟩
  case round =>
    obtain ⟨k, C, Q, rfl, hD⟩ := hrel
    have HD := hid hD
    have hkL := hD.hk
    by_cases hk0 : k = 0
    · subst hk0
      have HRU := hid hD.ru
      clear hD
      go_wp2_with fail
      have hlc := HD.out.lc
      have hru := HD.out.ru
      have htk := high_zero (C := C) (n := lb.length) (by have := HD.out.lt; simpa using this) HVVle.out (by omega)
      have hsl : SlAt wr (some ⟨w1.heap.size, 0, none⟩) (la.length + 1) (C.take lb.length) := by
        have := hru.slAt HD.out.okc 0 lb.length (la.length + 1) (by omega) (by omega) (by unfold maxLen; omega)
        simpa using this
      refine (shiftedDown_any _ _ _ lb.length (C.take lb.length) (by simp; omega) hsl (by simp; omega) s hs).mono ?_
      rintro e w5 ⟨R, rfl, hr5, hl5, hok5, hv5, hb5⟩
      have hev := HD.out.ev
      simp only [List.drop_zero] at hev
      have hlt := HD.out.lt
      simp only [List.drop_zero] at hlt
      rw [HVV.out, HV2.out] at hev
      rw [HVV.out] at hlt
      have hbp : 0 < val lb := by
        have h1 := canon_pos hcb (by intro e; subst e; simp at hn)
        have h2 := pw_pos (lb.length - 1)
        omega
      have hend := div_end (n := 0) (C := []) (r := val R) hbp hev hlt (by rw [hv5, htk.2])
      have hlen : (C.take lb.length).length = lb.length := by simp; omega
      rw [hlen] at hl5 ⊢
      have HF : Hid (DivPost w1 la lb (.returned (.tuple #[.slice (some ⟨w3.heap.size, 0, none⟩) (la.length - lb.length + 1) (la.length - lb.length + 1), .slice (some ⟨wr.heap.size, 0, none⟩) lb.length lb.length])) w5) := by
        refine ⟨some ⟨w3.heap.size, 0, none⟩, la.length - lb.length + 1, la.length - lb.length + 1, some ⟨wr.heap.size, 0, none⟩, lb.length, lb.length, Q, R, rfl, HD.out.lq.symm, hl5.symm, ?_, from_row _ _ _ (by omega), ?_, from_row _ _ _ HD.out.bl.size, hend.1, hend.2, by rw [HD.out.lq]; omega, by rw [hl5]; omega, below_call HD.out.bl hb5 HD.out.bl.size⟩
        · have := (HD.out.rq.below hb5).whole HD.out.okq (by rw [HD.out.lq]; omega)
          rwa [HD.out.lq] at this
        · have := hr5.whole hok5 (by rw [hl5]; omega)
          rwa [hl5] at this
      clear hev hlt hend hr5 hl5 hok5 hv5 hb5 htk hsl hru hlc hlen
      go_wp2
      go_ret2
      exact HF.out
    · obtain ⟨j, rfl⟩ : ∃ j, k = j + 1 := ⟨k - 1, by omega⟩
      have hij : ((j + 1 : Nat) : Int) - 1 = (j : Int) := by omega
      rw [hij]
      have hp := part_eq hD.okc (by rw [hD.lc]; omega) hD.lt HVVle.out
      have HP := hid hp
      have hcl := hD.lc
      have HAL : Hid (((C.drop j).take (lb.length + 1)).length = lb.length + 1) := hid (by simp; omega)
      have HPL : Hid (j = (C.take j).length) := hid (by simp; omega)
      have hsl : SlAt wr (some ⟨w1.heap.size, j, none⟩) (la.length + 1 - j) ((C.drop j).take (lb.length + 1)) := hD.ru.slAt hD.okc j (lb.length + 1) (la.length + 1 - j) (by omega) (by omega) (by unfold maxLen; omega)
      have HSL := hid hsl
      have HCL := hid hcl
      have HSV : Hid (∀ wx, RowAt wx w2.heap.size R2 → SlAt wx (some ⟨w2.heap.size, 0, none⟩) (lb.length + 1) (R2.take lb.length)) := hid (by
        intro wx hx
        have := hx.slAt hok3 0 lb.length (lb.length + 1) (by rw [HL3.out]; omega) (by omega) (by unfold maxLen; omega)
        simpa using this)
      clear hD hp hsl hcl hij
      go_wp2_with fail
      refine (guess_any wr _ _ _ ((C.drop j).take (lb.length + 1)) _ _ _ (R2.take lb.length) lb.length HSL.out (HSV.out wr HD.out.rv) (by rw [HAL.out]; omega) HVL.out.symm HAL.out HVL.out hn HTB.out (by rw [HP.out.2.1]; exact HP.out.2.2)).mono ?_
      rintro e w5 ⟨q, rfl, hq, hq1, hq2, hb5⟩
      have HQ1 := hid hq1
      have HQ2 := hid hq2
      clear hq1 hq2
      have hru5 : RowAt w5 w1.heap.size (C.take j ++ ((C.drop j).take (lb.length + 1) ++ C.drop (j + lb.length + 1))) := by
        have h1 : C.take j ++ ((C.drop j).take (lb.length + 1) ++ C.drop (j + lb.length + 1)) = C := by
          rw [show j + lb.length + 1 = j + (lb.length + 1) by omega, ← List.drop_drop, List.take_append_drop, List.take_append_drop]
        rw [h1]
        exact HD.out.ru.below hb5
      have hrv5 := HD.out.rv.below hb5
      have hrq5 := HD.out.rq.below hb5
      have hW5 := below_call HD.out.bl hb5 HD.out.bl.size
      have HOA : Hid (ok ((C.drop j).take (lb.length + 1))) := hid (ok_take (ok_drop HD.out.okc _) _)
      go_wp2_with fail
      refine (subTimes_any w5 w1.heap.size j (la.length + 1 - j) _ (C.take j) ((C.drop j).take (lb.length + 1)) (C.drop (j + lb.length + 1)) _ _ _ (R2.take lb.length) q HPL.out (by rw [HAL.out]; omega) HVL.out.symm hru5 HOA.out (by rw [HAL.out]; omega) (by rw [HAL.out]; omega) (by omega) (HSV.out w5 hrv5) (by intro _ ad e; simp at e; subst e; simp; omega) (by rw [HAL.out, HVL.out]) hq).mono ?_
      rintro e w6 ⟨A1, ov, bv, rfl, HBV, hov, hr6, hl6, hok6, hv6, hg6⟩
      have hrv6 := hrv5.kept hg6 (by simp; omega)
      have hrq6 := hrq5.kept hg6 (by simp; omega)
      have hW6 := below_grown hW5 hg6 (Nat.le_refl _)
      have HL6 : Hid (A1.length = lb.length + 1) := hid (by rw [hl6, HAL.out])
      rw [HAL.out] at hv6
      have HV6 := hid hv6
      have HLTA : Hid (val A1 < pw (lb.length + 1)) := hid (by have := val_lt hok6; rwa [HL6.out] at this)
      clear hl6 hv6 hru5 hg6 hrv5 hrq5 hb5 hW5
      by_cases ho1 : ov = 1
      · have hbv : bv = true := by rw [HBV.out, ho1]; rfl
        subst hbv
        have HOV := hid ho1
        have HLT : Hid (val ((C.drop j).take (lb.length + 1)) < q * val (R2.take lb.length)) := hid (by
          have h1 := HV6.out
          rw [HOV.out, Nat.mul_one] at h1
          have h2 := HLTA.out
          omega)
        have hq0 : 0 < q := by
          rcases Nat.eq_zero_or_pos q with h | h
          · have := HLT.out; rw [h] at this; simp at this
          · exact h
        clear ho1 hov
        go_wp2_with fail
        refine (addInto_kk w6 w1.heap.size j (la.length + 1 - j) _ (C.take j) A1 (C.drop (j + lb.length + 1)) (some ⟨w2.heap.size, 0, none⟩) (lb.length + 1) lb.length (R2.take lb.length) HPL.out (by rw [HL6.out]; omega) HVL.out.symm hr6 hok6 (by rw [HL6.out]; omega) (by rw [HL6.out]; omega) (by omega) (HSV.out w6 hrv6) (by intro _ ad e; simp at e; subst e; simp; omega) (by rw [HL6.out, HVL.out]; omega)).mono ?_
        rintro e w7 ⟨A2, c, rfl, hr7, hl7, hok7, hv7, hc7, hg7⟩
        have hrv7 := hrv6.kept hg7 (by simp; omega)
        have hrq7 := hrq6.kept hg7 (by simp; omega)
        have hW7 := below_grown hW6 hg7 (Nat.le_refl _)
        have HL7 : Hid (A2.length = lb.length + 1) := hid (by rw [hl7, HL6.out])
        rw [HL6.out] at hv7
        have hlt7 : val A2 < pw (lb.length + 1) := by have := val_lt hok7; rwa [HL7.out] at this
        have HBK := hid (sub_back HV6.out HOV.out hv7 HQ2.out hlt7 HLTA.out hc7 hq0)
        have HLT2 : Hid (val A2 < val (R2.take lb.length)) := hid (by
          have h1 := HBK.out
          have h2 := HLT.out
          obtain ⟨p, rfl⟩ : ∃ p, q = p + 1 := ⟨q - 1, by omega⟩
          rw [Nat.add_mul, Nat.one_mul] at h2
          rw [Nat.add_sub_cancel] at h1
          omega)
        have HNX := hid (divAt_step (q := q - 1) HD.out hle HL2.out HVVle.out HBK.out HLT2.out hok7 HL7.out (by omega) (by omega) (by omega) (by omega) hr7 hrv7 hrq7 hW7)
        have hzq : w7.cell? ⟨w3.heap.size, j, none⟩ = some (.int .u32 ((Q.getD j 0 : Nat) : Int)) := hrq7.cell j (by rw [HD.out.lq]; omega)
        have hfq := hrq7.frozen j
        have e1 : ((q - 1 : Nat) : Int) = (q : Int) - 1 := by omega
        rw [e1] at HNX
        clear hr7 hl7 hok7 hv7 hc7 hg7 hlt7 hrv7 hrq7 hrv6 hrq6 hr6 e1
        go_wp2
        go_roundw
        case rel => exact ⟨j, _, _, by go_num, HNX.out⟩
        case measure => simp [intOf]
      · have hbv : bv = false := by rw [HBV.out]; simp [ho1]
        subst hbv
        have hov0 : ov = 0 := by omega
        have HBK : Hid (val ((C.drop j).take (lb.length + 1)) = val A1 + q * val (R2.take lb.length)) := hid (by
          have := HV6.out
          rw [hov0, Nat.mul_zero, Nat.add_zero] at this
          exact this)
        have HLT2 : Hid (val A1 < val (R2.take lb.length)) := hid (by
          have h1 := HBK.out
          have h2 := HQ1.out
          rw [Nat.add_mul, Nat.one_mul] at h2
          omega)
        have HNX := hid (divAt_step (q := q) HD.out hle HL2.out HVVle.out HBK.out HLT2.out hok6 HL6.out (by omega) (by omega) (by omega) (by omega) hr6 hrv6 hrq6 hW6)
        have hzq : w6.cell? ⟨w3.heap.size, j, none⟩ = some (.int .u32 ((Q.getD j 0 : Nat) : Int)) := hrq6.cell j (by rw [HD.out.lq]; omega)
        have hfq := hrq6.frozen j
        clear hrv6 hrq6 hr6 hov0 ho1 hov
        go_wp2
        go_roundw
        case rel => exact ⟨j, _, _, by go_num, HNX.out⟩
        case measure => simp [intOf]

set_option maxHeartbeats 1600000 in
theorem divLimbs_long (W : World) (ao : Option Addr) (ca : Nat) (la : List Nat) (bo : Option Addr) (cb : Nat) (lb : List Nat) (ha : SlAt W ao ca la) (hb : SlAt W bo cb lb) (hcb : canon lb) (hN : la.length ≤ 999999) (hlt : ¬ la.length < lb.length) (h1 : 2 ≤ lb.length) :
    Calls Tryz.prog 52 #[.slice ao la.length ca, .slice bo lb.length cb] W (DivPost W la lb) := by
  have hca := ha.2.2.1
  have hcb2 := hb.2.2.1
  have hla := ha.2.1
  have hlb := hb.2.1
  unfold maxLen at hca hcb2
  go_enter Tryz.func52, Tryz.ntmps52
  go_wp2_with fail
  refine (divLong_any _ ao ca la bo cb lb ha hb hcb h1 (by omega) hN).mono ?_
  rintro e w' ⟨qa, qn, qc, ra, rn, rc, q, r, rfl, h⟩
  have HH := hid h
  clear h
  go_wp2
  go_ret2
  exact ⟨qa, qn, qc, ra, rn, rc, q, r, rfl, HH.out⟩

theorem divSaid_all : DivSaid 999999 999999 := by
  intro W ao ca la bo cb lb ha hb hca hcb hne hN hM
  by_cases hlt : la.length < lb.length
  · exact divLimbs_less W ao ca la bo cb lb ha hb hcb (by omega) hlt
  · by_cases h1 : lb.length = 1
    · exact divLimbs_one W ao ca la bo cb lb ha hb hcb (by omega) hlt h1
    · exact divLimbs_long W ao ca la bo cb lb ha hb hcb hN hlt (by omega)

end Go.Proofs.YtogdchddmjokmaaGreatDoor
