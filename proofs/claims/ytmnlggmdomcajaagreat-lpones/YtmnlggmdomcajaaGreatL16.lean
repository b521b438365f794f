/-
  Mathematics: of one problem no two kinds of answers hold, and nothing within has more than the greatest.
-/
import Derived.Test.YtmnlggmdomcajaaGreatL13
import Derived.Test.YtmnlggmdomcajaaGreatVD
namespace Go.Proofs.YtmnlggmdomcajaaGreat
open Go.RowKit Lm
set_option linter.unusedSimpArgs false
set_option linter.unusedVariables false
set_option maxRecDepth 100000

theorem dot_mono : ∀ (Y A B : List Rat), A.length = Y.length → B.length = Y.length → (∀ i, i < Y.length → 0 ≤ Y.getD i 0) → (∀ i, i < Y.length → A.getD i 0 ≤ B.getD i 0) → dotR Y A ≤ dotR Y B
  | [], A, B, _, _, _, _ => by rw [dotR_nil, dotR_nil]; exact Rat.le_refl
  | y :: Y, [], B, h, _, _, _ => by simp at h
  | y :: Y, a :: A, [], _, h, _, _ => by simp at h
  | y :: Y, a :: A, b :: B, h1, h2, h3, h4 => by
    have i1 := h3 0 (by simp)
    have i2 := h4 0 (by simp)
    have ih := dot_mono Y A B (by simpa using h1) (by simpa using h2) (fun i hi => by have := h3 (i + 1) (by simpa using hi); simpa using this) (fun i hi => by have := h4 (i + 1) (by simpa using hi); simpa using this)
    simp at i1 i2
    show y * a + dotR Y A ≤ y * b + dotR Y B
    have h5 : y * a ≤ y * b := Rat.mul_le_mul_of_nonneg_left i2 i1
    grind
theorem dot_nought : ∀ (A B : List Rat), A.length = B.length → (∀ i, i < A.length → A.getD i 0 = 0) → dotR A B = 0
  | [], B, _, _ => dotR_nil B
  | a :: A, [], h, _ => by simp at h
  | a :: A, b :: B, h, h0 => by
    have i1 := h0 0 (by simp)
    simp at i1
    have ih := dot_nought A B (by simpa using h) (fun i hi => by have := h0 (i + 1) (by simpa using hi); simpa using this)
    show a * b + dotR A B = 0
    rw [i1, ih, Rat.zero_mul, Rat.add_zero]
theorem dot_below (Y A : List Rat) (h : A.length = Y.length) (h3 : ∀ i, i < Y.length → 0 ≤ Y.getD i 0) (h4 : ∀ i, i < Y.length → A.getD i 0 ≤ 0) : dotR Y A ≤ 0 := by
  have h5 := dot_mono Y A (List.replicate Y.length 0) h (by simp) h3 (fun i hi => by rw [show (List.replicate Y.length (0 : Rat)).getD i 0 = 0 by rw [List.getD_eq_getElem?_getD, List.getElem?_replicate]; split <;> rfl]; exact h4 i hi)
  have h6 : dotR Y (List.replicate Y.length 0) = 0 := by
    rw [dotR_comm]
    exact dot_nought _ _ (by simp) (fun i hi => by rw [List.getD_eq_getElem?_getD, List.getElem?_replicate]; split <;> rfl)
  rw [h6] at h5
  exact h5

/-- The lengths that a problem and an answer have. -/
structure Fits (p : LPd) (a : Ansd) (nn : Nat) : Prop where
  n : p.n = nn
  m : p.ka = p.M.length
  b : p.kb = p.B.length
  c : p.kc = p.C.length
  x : a.kx = a.X.length
  y : a.ky = a.Y.length
  r : a.kr = a.R.length
theorem fits_of {p : LPd} {a : Ansd} {w w' : World} {nn : Nat} (h : p.n = nn) (hp : p.At w) (ha : a.At w') : Fits p a nn := ⟨h, hp.k, hp.b.len.1, hp.c.len.1, ha.x.len.1, ha.y.len.1, ha.r.len.1⟩

section
variable {p : LPd} {a b : Ansd} {nn : Nat}
/-- What a point that is within gives. -/
structure Inside (p : LPd) (X : List Rat) (nn : Nat) : Prop where
  l : X.length = nn
  w : ∀ R ∈ p.M, R.length = nn
  k : p.M.length = p.B.length
  le : ∀ i, i < p.M.length → (timesR p.M X).getD i 0 ≤ p.B.getD i 0
theorem wide_iff {M : List (List Rat)} {nn : Nat} (h : wide M nn = true) : ∀ R ∈ M, R.length = nn := by
  unfold wide at h
  rw [List.all_eq_true] at h
  intro R hR
  have := h R hR
  simp at this
  omega
theorem inside_of (F : Fits p a nn) {X : List Rat} (h : withinB p.n p.ka p.kb p.kc p.M p.B X = true) : Inside p X nn := by
  unfold withinB at h
  rw [Bool.and_eq_true, Bool.and_eq_true] at h
  obtain ⟨⟨h1, h2⟩, h3⟩ := h
  obtain ⟨-, -, -, -, r5, r6⟩ := rightB_iff.1 h1
  have h2' := of_decide_eq_true h2
  rw [allB_iff] at h3
  refine ⟨by have := F.n; omega, wide_iff (by rw [← F.n]; exact r6), by rw [← F.m, ← F.b, r5], fun i hi => ?_⟩
  have := h3 i hi
  unfold atMost at this
  exact (cmpR_le0 _ _).1 (of_decide_eq_true this)
/-- What weights that fit give. -/
structure Weights (p : LPd) (Y : List Rat) (nn : Nat) : Prop where
  l : Y.length = p.M.length
  nn : ∀ i, i < Y.length → 0 ≤ Y.getD i 0
theorem weights_of (F : Fits p a nn) (h : (decide (a.ky = p.ka) && allB (fitB a.Y) a.ky) = true) : Weights p a.Y nn := by
  rw [Bool.and_eq_true, allB_iff] at h
  obtain ⟨h1, h2⟩ := h
  have h1' := of_decide_eq_true h1
  refine ⟨by rw [← F.y, ← F.m, h1'], fun i hi => ?_⟩
  have := h2 i (by rw [F.y]; exact hi)
  unfold fitB at this
  have h4 := of_decide_eq_true this
  have h5 := cmpR_turn (a.Y.getD i 0) 0
  exact (cmpR_le0 _ _).1 (by omega)
theorem duality {X Y : List Rat} (hX : Inside p X nn) (hY : Weights p Y nn) : dotR (timesR (cols p.M nn) Y) X ≤ dotR Y p.B := by
  rw [dot_left hY.l.symm hX.w hX.l]
  exact dot_mono _ _ _ (by rw [timesR_len, hY.l]) (by rw [← hX.k, hY.l]) hY.nn (fun i hi => hX.le i (by rw [← hY.l]; exact hi))
theorem even_eq {A B : List Rat} (h1 : A.length = nn) (h2 : B.length = nn) (h : allB (evenB A B) nn = true) : A = B := by
  rw [allB_iff] at h
  refine List.ext_getElem (by omega) (fun i hi hj => ?_)
  have := h i (by omega)
  unfold evenB at this
  rw [getD_at hi, getD_at hj] at this
  exact (cmpR_zero _ _).1 (by simpa using this)
/-- The three kinds. -/
structure One (p : LPd) (a : Ansd) (nn : Nat) : Prop where
  x : Inside p a.X nn
  y : Weights p a.Y nn
  made : timesR (cols p.M nn) a.Y = p.C
  v : dotR p.C a.X = a.V
  u : dotR a.Y p.B = a.V
structure Two (p : LPd) (a : Ansd) (nn : Nat) : Prop where
  y : Weights p a.Y nn
  made : ∀ i, i < nn → (timesR (cols p.M nn) a.Y).getD i 0 = 0
  u : dotR a.Y p.B < 0
  v : a.V = 0
structure Three (p : LPd) (a : Ansd) (nn : Nat) : Prop where
  x : Inside p a.X nn
  l : a.R.length = nn
  w : ∀ R ∈ p.M, R.length = nn
  down : ∀ i, i < p.M.length → (timesR p.M a.R).getD i 0 ≤ 0
  u : 0 < dotR p.C a.R
  v : a.V = 0
theorem cmp_zero {r t : Rat} (h : (cmpR r t == 0) = true) : r = t := (cmpR_zero r t).1 (by simpa using h)
theorem holds_right (h : holdsB p a nn = true) : rightB p.n p.ka p.kb p.kc p.M = true := (and2 h).1
theorem holds_one (F : Fits p a nn) (h : holdsB p a nn = true) (hk : a.kd = 1) : One p a nn := by
  have hr := rightB_iff.1 (holds_right h)
  have h2 := (and2 h).2
  rw [if_pos hk, allB_iff] at h2
  have e0 := inside_of F (h2 0 (by omega))
  have e2 := (and2 (h2 2 (by omega))).2
  refine ⟨e0, weights_of F (h2 1 (by omega)), even_eq (by rw [timesR_len, cols_len]) (by rw [← F.c]; have := F.n; omega) e2, cmp_zero (and2 (h2 3 (by omega))).2, cmp_zero (and2 (h2 4 (by omega))).2⟩
theorem holds_two (F : Fits p a nn) (h : holdsB p a nn = true) (hk : a.kd = 2) : Two p a nn := by
  have h2 := (and2 h).2
  rw [if_neg (by omega), if_pos hk, allB_iff] at h2
  refine ⟨weights_of F (h2 0 (by omega)), fun i hi => ?_, ?_, cmp_zero (h2 5 (by omega))⟩
  · have e1 := (and2 (h2 1 (by omega))).2
    rw [allB_iff] at e1
    exact cmp_zero (e1 i hi)
  · have e2 := of_decide_eq_true (and2 (h2 2 (by omega))).2
    rcases cmpR_or (dotR a.Y p.B) 0 with ⟨h, _⟩ | ⟨_, h⟩ | ⟨_, h⟩
    · exact h
    · omega
    · omega
theorem holds_three (F : Fits p a nn) (h : holdsB p a nn = true) (hk : a.kd = 3) : Three p a nn := by
  have hr := rightB_iff.1 (holds_right h)
  have h2 := (and2 h).2
  rw [if_neg (by omega), if_neg (by omega), if_pos hk, allB_iff] at h2
  have e1 := and2 (h2 1 (by omega))
  have e3 := e1.2
  rw [allB_iff] at e3
  have e4 := of_decide_eq_true e1.1
  refine ⟨inside_of F (h2 0 (by omega)), by rw [← F.r]; have := F.n; omega, wide_iff (by rw [← F.n]; exact hr.2.2.2.2.2), fun i hi => (cmpR_le0 _ _).1 (of_decide_eq_true (e3 i (by rw [F.m]; exact hi))), ?_, cmp_zero (h2 4 (by omega))⟩
  have e2 := of_decide_eq_true (and2 (h2 2 (by omega))).2
  rcases cmpR_or (dotR p.C a.R) 0 with ⟨_, h⟩ | ⟨_, h⟩ | ⟨h, _⟩
  · omega
  · omega
  · exact h
theorem holds_kinds (h : holdsB p a nn = true) : a.kd = 1 ∨ a.kd = 2 ∨ a.kd = 3 := by
  have h2 := (and2 h).2
  by_cases h1 : a.kd = 1
  · exact .inl h1
  · by_cases h3 : a.kd = 2
    · exact .inr (.inl h3)
    · by_cases h4 : a.kd = 3
      · exact .inr (.inr h4)
      · rw [if_neg h1, if_neg h3, if_neg h4] at h2; simp at h2
theorem one_point (h : One p a nn) {X : List Rat} (hX : Inside p X nn) : dotR p.C X ≤ a.V := by
  have := duality hX h.y
  rw [h.made, h.u] at this
  exact this
theorem two_point (h : Two p a nn) {X : List Rat} (hX : Inside p X nn) : False := by
  have h1 := duality hX h.y
  rw [dot_nought _ _ (by rw [timesR_len, cols_len, hX.l]) (fun i hi => h.made i (by rw [timesR_len, cols_len] at hi; exact hi))] at h1
  exact absurd h.u (Rat.not_lt.2 h1)
theorem one_three (h : One p a nn) (g : Three p b nn) : False := by
  have h1 := dot_below a.Y (timesR p.M b.R) (by rw [timesR_len, h.y.l]) h.y.nn (fun i hi => g.down i (by rw [← h.y.l]; exact hi))
  rw [← dot_left h.y.l.symm g.w g.l, h.made] at h1
  exact absurd g.u (Rat.not_lt.2 h1)
theorem ones_kind (Fa : Fits p a nn) (Fb : Fits p b nn) (ha : holdsB p a nn = true) (hb : holdsB p b nn = true) : a.kd = b.kd ∧ cmpR a.V b.V = 0 := by
  rcases holds_kinds ha with h | h | h <;> rcases holds_kinds hb with g | g | g
  · have H := holds_one Fa ha h
    have G := holds_one Fb hb g
    refine ⟨by omega, (cmpR_zero _ _).2 (Rat.le_antisymm ?_ ?_)⟩
    · rw [← H.v]; exact one_point G H.x
    · rw [← G.v]; exact one_point H G.x
  · exact (two_point (holds_two Fb hb g) (holds_one Fa ha h).x).elim
  · exact (one_three (holds_one Fa ha h) (holds_three Fb hb g)).elim
  · exact (two_point (holds_two Fa ha h) (holds_one Fb hb g).x).elim
  · exact ⟨by omega, (cmpR_zero _ _).2 (by rw [(holds_two Fa ha h).v, (holds_two Fb hb g).v])⟩
  · exact (two_point (holds_two Fa ha h) (holds_three Fb hb g).x).elim
  · exact (one_three (holds_one Fb hb g) (holds_three Fa ha h)).elim
  · exact (two_point (holds_two Fb hb g) (holds_three Fa ha h).x).elim
  · exact ⟨by omega, (cmpR_zero _ _).2 (by rw [(holds_three Fa ha h).v, (holds_three Fb hb g).v])⟩
theorem ones_point (Fa : Fits p a nn) (ha : holdsB p a nn = true) {X : List Rat} (hX : withinB p.n p.ka p.kb p.kc p.M p.B X = true) : a.kd ≠ 2 ∧ (a.kd = 1 → cmpR (dotR p.C X) a.V ≤ 0) := by
  have I := inside_of Fa hX
  refine ⟨fun h => two_point (holds_two Fa ha h) I, fun h => (cmpR_le0 _ _).2 (one_point (holds_one Fa ha h) I)⟩
end

end Go.Proofs.YtmnlggmdomcajaaGreat
