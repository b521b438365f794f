/-
  Plain mathematics of long division, limb by limb.
-/
import Derived.Test.YtalblhcfkfockaaMath
namespace Go.Proofs.Ytalblhcfkfockaa.Lm
set_option linter.unusedVariables false
set_option maxRecDepth 100000

/-- What the two highest limbs of a divisor and the three highest of a part tell. -/
structure Tops (U V P u2 top vn vh : Nat) : Prop where
  p : 0 < P
  vlo : (vn + 4294967296 * vh) * P ≤ V
  vhi : V < (vn + 4294967296 * vh + 1) * P
  ulo : (u2 + 4294967296 * top) * P ≤ U
  uhi : U < (u2 + 4294967296 * top + 1) * P
  h2 : u2 < 4294967296
  hn : vn < 4294967296
  hv : 4294967296 ≤ 2 * vh
  lt : U < V * 4294967296

theorem Tops.up {U V P u2 top vn vh : Nat} (h : Tops U V P u2 top vn vh) {q : Nat} (hq : u2 + 4294967296 * top + 1 ≤ q * (vn + 4294967296 * vh)) : U < q * V := by
  have h1 := Nat.mul_le_mul_right P hq
  have h2 := Nat.mul_le_mul_left q h.vlo
  have h3 := h.uhi
  rw [Nat.mul_assoc] at h1
  omega
theorem Tops.first {U V P u2 top vn vh : Nat} (h : Tops U V P u2 top vn vh) : U < (top / vh + 1) * V := by
  apply h.up
  have hv := h.hv
  have h2 := h.h2
  have h1 := Nat.lt_div_mul_add (a := top) (b := vh) (by omega)
  have h3 : top + 1 ≤ (top / vh + 1) * vh := by rw [Nat.add_mul]; omega
  have h4 : (top / vh + 1) * vh * 4294967296 ≤ (top / vh + 1) * (vn + 4294967296 * vh) := by
    rw [Nat.mul_assoc]
    exact Nat.mul_le_mul_left _ (by omega)
  omega
theorem Tops.dec {U V P u2 top vn vh : Nat} (h : Tops U V P u2 top vn vh) {q r : Nat} (hr : q * vh + r = top) (hq : r * 4294967296 + u2 < q * vn) : U < q * V := by
  apply h.up
  rw [Nat.mul_add, ← Nat.mul_assoc, Nat.mul_comm q 4294967296, Nat.mul_assoc]
  generalize q * vh = X at *
  omega
theorem Tops.dec2 {U V P u2 top vn vh : Nat} (h : Tops U V P u2 top vn vh) {q : Nat} (hq : 4294967296 ≤ q) : U < q * V := by
  have h1 := h.lt
  have h2 := Nat.mul_le_mul_right V hq
  rw [Nat.mul_comm V] at h1
  omega
theorem Tops.fin {U V P u2 top vn vh : Nat} (h : Tops U V P u2 top vn vh) {q r : Nat} (hr : q * vh + r = top) (hq : q * vn ≤ r * 4294967296 + u2) (hb : q ≤ 4294967296) : q * V ≤ U + V := by
  have hv := h.hv
  have h1 : q * (vn + 4294967296 * vh) ≤ u2 + 4294967296 * top := by
    rw [Nat.mul_add, ← Nat.mul_assoc, Nat.mul_comm q 4294967296, Nat.mul_assoc]
    generalize q * vh = X at *
    omega
  have h2 := Nat.mul_le_mul_right P h1
  have h3 : q * V ≤ q * ((vn + 4294967296 * vh + 1) * P) := Nat.mul_le_mul_left _ (Nat.le_of_lt h.vhi)
  have h4 : q * ((vn + 4294967296 * vh + 1) * P) = q * (vn + 4294967296 * vh) * P + q * P := by
    rw [Nat.add_mul (vn + 4294967296 * vh) 1 P, Nat.mul_add, Nat.one_mul, Nat.mul_assoc]
  have h5 : q * P ≤ (vn + 4294967296 * vh) * P := Nat.mul_le_mul_right _ (by omega)
  have h6 := h.vlo
  have h7 := h.ulo
  omega
theorem Tops.top_lt {U V P u1 u2 u0 vn vh : Nat} (h : Tops U V P u2 (u1 + 4294967296 * u0) vn vh) : u0 ≤ vh := by
  have h1 : (u2 + 4294967296 * (u1 + 4294967296 * u0)) * P < (vn + 4294967296 * vh + 1) * 4294967296 * P := by
    have e := h.lt
    have e1 := h.ulo
    have e2 := Nat.mul_lt_mul_of_pos_right h.vhi (show 0 < 4294967296 by omega)
    have e3 : (vn + 4294967296 * vh + 1) * P * 4294967296 = (vn + 4294967296 * vh + 1) * 4294967296 * P := by
      rw [Nat.mul_assoc, Nat.mul_comm P, ← Nat.mul_assoc]
    omega
  have h2 := Nat.lt_of_mul_lt_mul_right h1
  have h3 := h.hn
  omega
theorem Tops.q_le {U V P u1 u2 u0 vn vh : Nat} (h : Tops U V P u2 (u1 + 4294967296 * u0) vn vh) (h1 : u1 < 4294967296) : (u1 + 4294967296 * u0) / vh ≤ 4294967297 := by
  have h0 := h.top_lt
  have hv := h.hv
  have : (u1 + 4294967296 * u0) / vh < 4294967298 := by
    rw [Nat.div_lt_iff_lt_mul (by omega)]
    omega
  omega
theorem Tops.broke {U V P u1 u2 u0 vn vh : Nat} (h : Tops U V P u2 (u1 + 4294967296 * u0) vn vh) (h1 : u1 < 4294967296) {q r : Nat} (hr : q * vh + r = u1 + 4294967296 * u0) (hb : 4294967296 ≤ r) : q < 4294967296 ∧ q * vn ≤ r * 4294967296 + u2 := by
  have h0 := h.top_lt
  have hv := h.hv
  have hn := h.hn
  have h2 : q < 4294967296 := by
    have : q * vh < 4294967296 * vh := by omega
    exact Nat.lt_of_mul_lt_mul_right this
  refine ⟨h2, ?_⟩
  have h3 := Nat.mul_le_mul (show q ≤ 4294967296 by omega) (show vn ≤ 4294967296 by omega)
  have h4 := Nat.mul_le_mul_right 4294967296 hb
  omega

theorem split2 {V : List Nat} {n : Nat} (hl : V.length = n) (hn : 2 ≤ n) : val V = val (V.take (n - 2)) + pw (n - 2) * (V.getD (n - 2) 0 + 4294967296 * V.getD (n - 1) 0) := by
  have h1 := val_take_succ V (n - 2) (by omega)
  have h2 := val_take_succ V (n - 1) (by omega)
  rw [show n - 2 + 1 = n - 1 by omega] at h1
  rw [show n - 1 + 1 = n by omega, List.take_of_length_le (by omega)] at h2
  have h3 : pw (n - 1) = 4294967296 * pw (n - 2) := by rw [show n - 1 = (n - 2) + 1 by omega]; rfl
  rw [h2, h1, h3, Nat.mul_add]
  have : pw (n - 2) * (4294967296 * V.getD (n - 1) 0) = 4294967296 * pw (n - 2) * V.getD (n - 1) 0 := by
    rw [← Nat.mul_assoc, Nat.mul_comm (pw (n - 2))]
  omega
theorem split3 {U : List Nat} {n : Nat} (hl : U.length = n + 1) (hn : 2 ≤ n) : val U = val (U.take (n - 2)) + pw (n - 2) * (U.getD (n - 2) 0 + 4294967296 * (U.getD (n - 1) 0 + 4294967296 * U.getD n 0)) := by
  have h0 := split2 (V := U.take n) (n := n) (by simp; omega) hn
  have h1 := val_take_succ U n (by omega)
  rw [List.take_of_length_le (by omega)] at h1
  have h3 : pw n = 4294967296 * (4294967296 * pw (n - 2)) := by rw [show n = (n - 2) + 1 + 1 by omega]; rfl
  have g1 : (U.take n).getD (n - 2) 0 = U.getD (n - 2) 0 := by simp only [List.getD_eq_getElem?_getD, List.getElem?_take]; rw [if_pos (by omega)]
  have g2 : (U.take n).getD (n - 1) 0 = U.getD (n - 1) 0 := by simp only [List.getD_eq_getElem?_getD, List.getElem?_take]; rw [if_pos (by omega)]
  rw [g1, g2, List.take_take, Nat.min_eq_left (by omega)] at h0
  rw [h1, h0, h3]
  simp only [Nat.mul_add]
  have e1 : pw (n - 2) * (4294967296 * (4294967296 * U.getD n 0)) = 4294967296 * (4294967296 * pw (n - 2)) * U.getD n 0 := by
    rw [← Nat.mul_assoc, ← Nat.mul_assoc, Nat.mul_comm (pw (n - 2)), Nat.mul_assoc 4294967296, Nat.mul_comm (pw (n - 2)), ← Nat.mul_assoc]
  omega
theorem tops_of {U V : List Nat} {n : Nat} (okU : ok U) (okV : ok V) (hU : U.length = n + 1) (hV : V.length = n) (hn : 2 ≤ n) (hv : 4294967296 ≤ 2 * V.getD (n - 1) 0) (hlt : val U < val V * 4294967296) :
    Tops (val U) (val V) (pw (n - 2)) (U.getD (n - 2) 0) (U.getD (n - 1) 0 + 4294967296 * U.getD n 0) (V.getD (n - 2) 0) (V.getD (n - 1) 0) := by
  have h1 := split2 hV hn
  have h2 := split3 hU hn
  have h3 := val_lt (ok_take okV (n - 2))
  have h4 := val_lt (ok_take okU (n - 2))
  rw [List.length_take, Nat.min_eq_left (by omega)] at h3 h4
  refine ⟨pw_pos _, ?_, ?_, ?_, ?_, ok_getD okU _, ok_getD okV _, hv, hlt⟩
  · rw [Nat.mul_comm]; omega
  · rw [Nat.add_mul, Nat.one_mul, Nat.mul_comm _ (pw (n - 2))]; omega
  · rw [Nat.mul_comm]; omega
  · rw [Nat.add_mul, Nat.one_mul, Nat.mul_comm _ (pw (n - 2))]; omega

/-- The limbs above a small number are noughts. -/
theorem high_zero {C : List Nat} {n V : Nat} (h : val C < V) (hV : V ≤ pw n) (hn : n ≤ C.length) : val (C.drop n) = 0 ∧ val (C.take n) = val C := by
  have e : val C = val (C.take n) + pw n * val (C.drop n) := by
    conv => lhs; rw [← List.take_append_drop n C, val_append]
    rw [List.length_take, Nat.min_eq_left hn]
  by_cases h0 : val (C.drop n) = 0
  · rw [h0] at e; exact ⟨h0, by omega⟩
  · have : pw n * 1 ≤ pw n * val (C.drop n) := Nat.mul_le_mul_left _ (by omega)
    omega

/-- One limb of a quotient: what is subtracted, once too much or not. -/
theorem sub_back {U V q over U' c U2 W : Nat} (h1 : U + W * over = U' + q * V) (hov : over = 1) (h2 : U2 + W * c = U' + V) (hq : q * V ≤ U + V) (hU2 : U2 < W) (hU' : U' < W) (hc : c ≤ 1) (hq0 : 0 < q) : U = U2 + (q - 1) * V := by
  subst hov
  obtain ⟨p, rfl⟩ : ∃ p, q = p + 1 := ⟨q - 1, by omega⟩
  rw [Nat.add_mul, Nat.one_mul] at h1 hq
  rw [Nat.add_sub_cancel]
  generalize p * V = X at *
  have hc1 : c = 0 ∨ c = 1 := by omega
  rcases hc1 with rfl | rfl
  · omega
  · omega

theorem times_sub {A V C : List Nat} {k c s c' x t : Nat} (hkC : k < C.length) (hkA : k < A.length) (hkV : k < V.length)
    (hv : val (A.take k) + pw k * c = val (C.take k) + x * val (V.take k)) (hs : A.getD k 0 + 4294967296 * c' = s + x * V.getD k 0 + c) :
    val (A.take (k + 1)) + pw (k + 1) * c' = val ((C.set k s).take (k + 1)) + x * val (V.take (k + 1)) := by
  have e0 : val ((C.set k s).take (k + 1)) = val (C.take k) + pw k * s := by
    rw [val_take_succ _ k (by simpa using hkC), set_take (Nat.le_refl _)]
    simp [List.getD_eq_getElem?_getD, hkC]
  have e1 : pw (k + 1) * c' = pw k * (4294967296 * c') := by simp only [pw]; rw [← Nat.mul_assoc, Nat.mul_comm (pw k)]
  rw [e0, val_take_succ A k hkA, val_take_succ V k hkV, e1]
  have h1 := congrArg (pw k * ·) hs
  simp only [Nat.mul_add] at h1
  have h2 : x * (pw k * V.getD k 0) = pw k * (x * V.getD k 0) := by rw [← Nat.mul_assoc, Nat.mul_comm x, Nat.mul_assoc]
  rw [Nat.mul_add, h2]
  omega

/-- A limb of a shift to the left. -/
theorem up_limb {x s c : Nat} (hs : s < 32) (hc : c < 2 ^ s) : (x * 2 ^ s % 4294967296) ||| c = x * 2 ^ s % 4294967296 + c := by
  have e : (4294967296 : Nat) = 2 ^ s * 2 ^ (32 - s) := by rw [← Nat.pow_add, show s + (32 - s) = 32 by omega]
  have e2 : x * 2 ^ s % 4294967296 = 2 ^ s * (x % 2 ^ (32 - s)) := by
    rw [e, Nat.mul_comm x, Nat.mul_mod_mul_left]
  rw [e2]
  exact (Nat.two_pow_add_eq_or_of_lt hc _).symm
theorem up_carry {x s : Nat} (hx : x < 4294967296) : x * 2 ^ s / 4294967296 < 2 ^ s := by
  rw [Nat.div_lt_iff_lt_mul (by omega), Nat.mul_comm (2 ^ s)]
  exact Nat.mul_lt_mul_of_pos_right hx (Nat.two_pow_pos s)
theorem up_step {A C : List Nat} {k c s : Nat} (hkC : k < C.length) (hkA : k < A.length) (hv : val (C.take k) + pw k * c = val (A.take k) * 2 ^ s) :
    val ((C.set k (A.getD k 0 * 2 ^ s % 4294967296 + c)).take (k + 1)) + pw (k + 1) * (A.getD k 0 * 2 ^ s / 4294967296) = val (A.take (k + 1)) * 2 ^ s := by
  have e0 : ∀ y, val ((C.set k y).take (k + 1)) = val (C.take k) + pw k * y := by
    intro y
    rw [val_take_succ _ k (by simpa using hkC), set_take (Nat.le_refl _)]
    simp [List.getD_eq_getElem?_getD, hkC]
  have e1 : pw (k + 1) * (A.getD k 0 * 2 ^ s / 4294967296) = pw k * (4294967296 * (A.getD k 0 * 2 ^ s / 4294967296)) := by simp only [pw]; rw [← Nat.mul_assoc, Nat.mul_comm (pw k)]
  rw [e0, val_take_succ A k hkA, e1, Nat.add_mul, ← hv, Nat.mul_assoc (pw k)]
  have h1 := Nat.div_add_mod (A.getD k 0 * 2 ^ s) 4294967296
  generalize A.getD k 0 * 2 ^ s = X at *
  have h2 := congrArg (pw k * ·) h1
  simp only [Nat.mul_add] at h2 ⊢
  omega

/-- A limb of a shift to the right. -/
theorem down_limb {x s c : Nat} (hs : s < 32) (hx : x < 4294967296) : (x / 2 ^ s) ||| (2 ^ (32 - s) * c) = x / 2 ^ s + 2 ^ (32 - s) * c := by
  have h : x / 2 ^ s < 2 ^ (32 - s) := by
    rw [Nat.div_lt_iff_lt_mul (Nat.two_pow_pos s), ← Nat.pow_add, show 32 - s + s = 32 by omega]
    omega
  rw [Nat.or_comm, ← Nat.two_pow_add_eq_or_of_lt h, Nat.add_comm]
theorem down_carry {x s : Nat} (hs : s < 32) : x * 2 ^ (32 - s) % 4294967296 = 2 ^ (32 - s) * (x % 2 ^ s) := by
  have e : (4294967296 : Nat) = 2 ^ (32 - s) * 2 ^ s := by rw [← Nat.pow_add, show 32 - s + s = 32 by omega]
  rw [e, Nat.mul_comm x, Nat.mul_mod_mul_left]
theorem down_lt {x s c : Nat} (hs : s < 32) (hx : x < 4294967296) (hc : c < 2 ^ s) : x / 2 ^ s + 2 ^ (32 - s) * c < 4294967296 := by
  have h : x / 2 ^ s < 2 ^ (32 - s) := by
    rw [Nat.div_lt_iff_lt_mul (Nat.two_pow_pos s), ← Nat.pow_add, show 32 - s + s = 32 by omega]
    omega
  have e : (4294967296 : Nat) = 2 ^ (32 - s) * 2 ^ s := by rw [← Nat.pow_add, show 32 - s + s = 32 by omega]
  have h2 : 2 ^ (32 - s) * (c + 1) ≤ 2 ^ (32 - s) * 2 ^ s := Nat.mul_le_mul_left _ hc
  rw [← e, Nat.mul_add, Nat.mul_one] at h2
  omega
theorem down_step {s x c D VA : Nat} (hs : s < 32) (hv : VA = 2 ^ s * D + c) : x + 4294967296 * VA = 2 ^ s * ((x / 2 ^ s + 2 ^ (32 - s) * c) + 4294967296 * D) + x % 2 ^ s := by
  have e : 2 ^ s * 2 ^ (32 - s) = 4294967296 := by rw [← Nat.pow_add, show s + (32 - s) = 32 by omega]
  have h1 := Nat.div_add_mod x (2 ^ s)
  rw [hv]
  simp only [Nat.mul_add]
  rw [← Nat.mul_assoc (2 ^ s) (2 ^ (32 - s)) c, e]
  have e2 : 2 ^ s * (4294967296 * D) = 4294967296 * (2 ^ s * D) := by rw [← Nat.mul_assoc, Nat.mul_comm (2 ^ s), Nat.mul_assoc]
  rw [e2]
  omega
theorem down_end {s c D VA : Nat} (hv : VA = 2 ^ s * D + c) (hc : c < 2 ^ s) : D = VA / 2 ^ s := by
  rw [hv, Nat.mul_add_div (Nat.two_pow_pos s), Nat.div_eq_of_lt hc, Nat.add_zero]

/-- A divisor that is shifted up to its highest bit keeps its limbs, and has that bit. -/
theorem norm_lt {b : List Nat} {n s : Nat} (hok : ok b) (hl : b.length = n) (hn : 0 < n) (hs : s < 32) (hb : b.getD (n - 1) 0 * 2 ^ s < 4294967296) : val b * 2 ^ s < pw n := by
  have h1 := val_take_succ b (n - 1) (by omega)
  rw [show n - 1 + 1 = n by omega, List.take_of_length_le (by omega)] at h1
  have h2 := val_lt (ok_take hok (n - 1))
  rw [List.length_take, Nat.min_eq_left (by omega)] at h2
  have e : pw n = pw (n - 1) * 4294967296 := by rw [show n = (n - 1) + 1 by omega]; simp only [pw]; rw [Nat.mul_comm]; rfl
  have e1 : (4294967296 : Nat) = 2 ^ (32 - s) * 2 ^ s := by rw [← Nat.pow_add, show 32 - s + s = 32 by omega]
  have h3 : b.getD (n - 1) 0 + 1 ≤ 2 ^ (32 - s) := by
    rw [e1] at hb
    exact Nat.lt_of_mul_lt_mul_right hb
  have h4 : val b + 1 ≤ pw (n - 1) * (b.getD (n - 1) 0 + 1) := by rw [Nat.mul_add]; omega
  have h5 := Nat.mul_le_mul_right (2 ^ s) (Nat.le_trans h4 (Nat.mul_le_mul_left _ h3))
  rw [Nat.mul_assoc, ← e1, ← e, Nat.add_mul] at h5
  have := Nat.two_pow_pos s
  omega
theorem top_bit {b v : List Nat} {n s : Nat} (okb : ok b) (okv : ok v) (hb : b.length = n) (hv : v.length = n) (hn : 0 < n) (h : val v = val b * 2 ^ s) (ht : 4294967296 ≤ 2 * (b.getD (n - 1) 0 * 2 ^ s)) : 4294967296 ≤ 2 * v.getD (n - 1) 0 := by
  have h1 := val_take_succ b (n - 1) (by omega)
  rw [show n - 1 + 1 = n by omega, List.take_of_length_le (by omega)] at h1
  have h2 := val_take_succ v (n - 1) (by omega)
  rw [show n - 1 + 1 = n by omega, List.take_of_length_le (by omega)] at h2
  have h3 := val_lt (ok_take okv (n - 1))
  rw [List.length_take, Nat.min_eq_left (by omega)] at h3
  have h4 : pw (n - 1) * (b.getD (n - 1) 0 * 2 ^ s) ≤ val v := by
    rw [h, h1, Nat.add_mul, Nat.mul_assoc]
    omega
  have h5 : pw (n - 1) * (b.getD (n - 1) 0 * 2 ^ s) < pw (n - 1) * (v.getD (n - 1) 0 + 1) := by
    rw [Nat.mul_add]; omega
  have h6 := Nat.lt_of_mul_lt_mul_left h5
  omega
/-- The highest limbs of what is divided are below the divisor. -/
theorem first_lt {u v : List Nat} {la n s k VA : Nat} (hok : ok v) (hv : v.length = n) (hn : 0 < n) (hs : s < 32) (hla : n ≤ la) (hk : k = la - n + 1) (hu : u.length = la + 1) (hval : val u = VA * 2 ^ s) (hVA : VA < pw la) (ht : 4294967296 ≤ 2 * v.getD (n - 1) 0) : val (u.drop k) < val v := by
  have e : val u = val (u.take k) + pw k * val (u.drop k) := by
    conv => lhs; rw [← List.take_append_drop k u, val_append]
    rw [List.length_take, Nat.min_eq_left (by omega)]
  have h1 : VA * 2 ^ s < pw la * 2 ^ s := Nat.mul_lt_mul_of_pos_right hVA (Nat.two_pow_pos s)
  have h2 : pw la = pw k * pw (n - 1) := by rw [← pw_add]; congr 1; omega
  have h3 : pw k * val (u.drop k) < pw k * (pw (n - 1) * 2 ^ s) := by rw [← Nat.mul_assoc, ← h2]; omega
  have h4 := Nat.lt_of_mul_lt_mul_left h3
  have h5 : 2 ^ s ≤ 2147483648 := by
    have := Nat.pow_le_pow_right (show 0 < 2 by omega) (show s ≤ 31 by omega)
    simpa using this
  have h6 := val_take_succ v (n - 1) (by omega)
  rw [show n - 1 + 1 = n by omega, List.take_of_length_le (by omega)] at h6
  have h7 : pw (n - 1) * 2 ^ s ≤ pw (n - 1) * v.getD (n - 1) 0 := Nat.mul_le_mul_left _ (by omega)
  omega

/-- A round of long division: the part that is looked at. -/
theorem part_eq {C : List Nat} {i n V : Nat} (okC : ok C) (hi : i + n + 1 ≤ C.length) (hlt : val (C.drop (i + 1)) < V) (hV : V ≤ pw n) :
    val (C.drop (i + n + 1)) = 0 ∧ val ((C.drop i).take (n + 1)) = val (C.drop i) ∧ val (C.drop i) < V * 4294967296 := by
  have h1 := high_zero hlt hV (by simp; omega)
  rw [List.drop_drop] at h1
  have e : i + 1 + n = i + n + 1 := by omega
  rw [e] at h1
  have h2 := drop_val C i (by omega)
  have h3 := ok_getD okC i
  refine ⟨h1.1, ?_, by omega⟩
  have e2 : val (C.drop i) = val ((C.drop i).take (n + 1)) + pw (n + 1) * val (C.drop (i + n + 1)) := by
    conv => lhs; rw [← List.take_append_drop (n + 1) (C.drop i), val_append]
    rw [List.length_take, Nat.min_eq_left (by simp; omega), List.drop_drop, show i + (n + 1) = i + n + 1 by omega]
  rw [h1.1] at e2
  omega
theorem round_eq {U C Q A T : List Nat} {i q V : Nat} (hQ : i < Q.length) (hU : i < U.length) (hC : i < C.length) (ht : C.getD i 0 = U.getD i 0) (hv : val (U.drop (i + 1)) = val (Q.drop (i + 1)) * V + val (C.drop (i + 1))) (hA : val (C.drop i) = val A + q * V) (hT : val T = 0) :
    val (U.drop i) = val ((Q.set i q).drop i) * V + val (A ++ T) := by
  rw [set_drop hQ, val_append, hT, drop_val U i hU, hv]
  have h1 := drop_val C i hC
  simp only [val]
  rw [Nat.add_mul, Nat.mul_assoc]
  generalize val (Q.drop (i + 1)) * V = X at *
  omega
/-- The end of long division. -/
theorem div_end {a b q c r s n : Nat} {C : List Nat} (hb : 0 < b) (h : a * 2 ^ s = q * (b * 2 ^ s) + c) (hc : c < b * 2 ^ s) (hr : r = c / 2 ^ s) : a = q * b + r ∧ r < b := by
  have hp := Nat.two_pow_pos s
  have h1 : r < b := by rw [hr, Nat.div_lt_iff_lt_mul hp]; exact hc
  refine ⟨?_, h1⟩
  have e : (a - q * b) * 2 ^ s = c := by rw [Nat.sub_mul, Nat.mul_assoc]; omega
  have e2 : r = a - q * b := by rw [hr, ← e, Nat.mul_div_cancel _ hp]
  have h3 : q * b ≤ a := by
    have : q * b * 2 ^ s ≤ a * 2 ^ s := by rw [Nat.mul_assoc]; omega
    exact Nat.le_of_mul_le_mul_right this hp
  omega

end Go.Proofs.Ytalblhcfkfockaa.Lm
