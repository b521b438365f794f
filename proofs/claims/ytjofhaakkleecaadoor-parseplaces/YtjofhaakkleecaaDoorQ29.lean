/-
  Plain mathematics of tokens: the beginning of a text up to a token's end.
-/
import Derived.Test.YtjofhaakkleecaaDoorJ16
namespace Go.Proofs.YtjofhaakkleecaaDoor
open Lx
set_option linter.unusedVariables false
set_option maxRecDepth 100000
set_option linter.unusedSimpArgs false

theorem span_cut (p : Nat → Bool) : ∀ (l : List Nat) (m : Nat), spanN p l ≤ m → spanN p (l.take m) = spanN p l
  | [], m, h => by simp [spanN]
  | c :: r, 0, h => by
    unfold spanN at h ⊢
    by_cases hc : p c = true
    · rw [if_pos hc] at h; omega
    · rw [if_neg hc]; rfl
  | c :: r, m + 1, h => by
    rw [List.take_succ_cons]
    unfold spanN at h ⊢
    by_cases hc : p c = true
    · rw [if_pos hc] at h
      rw [if_pos hc, if_pos hc, span_cut p r m (by omega)]
    · rw [if_neg hc, if_neg hc]
theorem head_cut (p : Nat → Bool) (l : List Nat) (m : Nat) (hm : 0 < m) : headIs p (l.take m) = headIs p l := by
  cases l with
  | nil => simp
  | cons c r =>
    match m, hm with
    | m + 1, _ => rfl
theorem head_cut_no (p : Nat → Bool) (l : List Nat) (m : Nat) (h : headIs p l = false) : headIs p (l.take m) = false := by
  cases m with
  | zero => rfl
  | succ m => rw [head_cut p l (m + 1) (by omega)]; exact h
theorem gap_cut : ∀ (l : List Nat) (rem : Bool) (m : Nat), gapN rem l < m → gapN rem (l.take m) = gapN rem l
  | [], rem, m, h => by simp
  | c :: r, rem, 0, h => by omega
  | c :: r, rem, m + 1, h => by
    rw [List.take_succ_cons]
    unfold gapN at h ⊢
    by_cases h1 : rem = true ∧ c ≠ 10
    · rw [if_pos h1] at h
      rw [if_pos h1, if_pos h1, gap_cut r true m (by omega)]
    · rw [if_neg h1] at h
      rw [if_neg h1, if_neg h1]
      by_cases h2 : isB c = true
      · rw [if_pos h2] at h
        rw [if_pos h2, if_pos h2, gap_cut r false m (by omega)]
      · rw [if_neg h2] at h
        rw [if_neg h2, if_neg h2]
        by_cases h3 : c = 35
        · rw [if_pos h3] at h
          rw [if_pos h3, if_pos h3, gap_cut r true m (by omega)]
        · rw [if_neg h3, if_neg h3]
theorem first_cut {l : List Nat} {k n m : Nat} (h : firstN l = (k, n, 0)) (hn : 0 < n) (hm : n ≤ m) : firstN (l.take m) = (k, n, 0) := by
  have hl : l ≠ [] := by
    intro e; subst e; simp [firstN] at h; omega
  have hl2 : l.take m ≠ [] := by
    intro e
    have : (l.take m).length = 0 := by rw [e]; rfl
    have h2 : 0 < l.length := List.length_pos_iff.2 hl
    rw [List.length_take] at this
    omega
  unfold firstN at h ⊢
  rw [if_neg hl] at h
  rw [if_neg hl2, head_cut _ _ _ (by omega), head_cut _ _ _ (by omega)]
  by_cases h1 : headIs isL l = true
  · rw [if_pos h1] at h ⊢
    unfold wordN at h ⊢
    by_cases h2 : isKey (l.take (spanN isW l)) = true
    · rw [if_pos h2] at h
      simp only [Prod.mk.injEq] at h
      rw [span_cut _ _ _ (by omega), List.take_take, Nat.min_eq_left (by omega), if_pos h2, h.1, h.2.1]
    · rw [if_neg h2] at h
      by_cases h3 : 16 < spanN isW l
      · rw [if_pos h3] at h; simp at h
      · rw [if_neg h3] at h
        simp only [Prod.mk.injEq] at h
        rw [span_cut _ _ _ (by omega), List.take_take, Nat.min_eq_left (by omega), if_neg h2, if_neg h3, h.1, h.2.1]
  · rw [if_neg h1] at h ⊢
    by_cases h2 : headIs isD l = true
    · rw [if_pos h2] at h ⊢
      unfold numberN at h ⊢
      by_cases h3 : 9 < spanN isD l
      · rw [if_pos h3] at h; simp at h
      · rw [if_neg h3] at h
        by_cases h4 : (1 < spanN isD l ∧ headIs (· == 48) l = true) ∨ headIs isW (l.drop (spanN isD l)) = true
        · rw [if_pos h4] at h; simp at h
        · rw [if_neg h4] at h
          simp only [Prod.mk.injEq] at h
          rw [span_cut _ _ _ (by omega), if_neg h3, if_neg, h.1, h.2.1]
          rintro (h5 | h5)
          · rw [head_cut _ _ _ (by omega)] at h5; exact h4 (.inl h5)
          · rw [List.drop_take, head_cut_no _ _ _ (by simpa using fun h6 => h4 (.inr h6))] at h5
            simp at h5
    · rw [if_neg h2] at h ⊢
      unfold signN at h ⊢
      by_cases h3 : l.take 2 ∈ twos
      · rw [if_pos h3] at h
        simp only [Prod.mk.injEq] at h
        rw [List.take_take, Nat.min_eq_left (by omega), if_pos h3, h.1, h.2.1]
      · rw [if_neg h3] at h
        by_cases h4 : headIs (fun c => decide (c ∈ ones)) l = true
        · rw [if_pos h4] at h
          simp only [Prod.mk.injEq] at h
          rw [if_neg, head_cut _ _ _ (by omega), if_pos h4, h.1, h.2.1]
          intro h5
          by_cases h6 : 2 ≤ m
          · rw [List.take_take, Nat.min_eq_left h6] at h5; exact h3 h5
          · have h7 : ((l.take m).take 2).length = 1 := by
              have : 0 < l.length := List.length_pos_iff.2 hl
              simp only [List.length_take]; omega
            have h8 : ∀ x ∈ twos, x.length = 2 := by decide
            rw [h8 _ h5] at h7
            omega
        · rw [if_neg h4] at h; simp at h
/-- A first token with a blank behind it. -/
theorem first_blank {l : List Nat} (hl : l ≠ []) (b : List Nat) : firstN (l ++ 32 :: b) = firstN l := first_app l 32 b hl rfl rfl rfl (by simp [twos]) rfl (by decide)
/-- The text up to the end of its j-th token, and another one behind a blank. -/
theorem lex_cut_join (b : List Nat) : ∀ (m : Nat) (x : List Nat) (p : Nat), x.length < m → (lexN false x p).2.1 = 0 → ∀ (j : Nat) (t : Tk), (lexN false x p).1[j]? = some t → j + 1 < (lexN false x p).1.length →
    ∃ e, p + e = t.p + t.t.length ∧ e ≤ x.length ∧ lexN false (x.take e ++ 32 :: b) p = comb ((lexN false x p).1.take (j + 1)) (lexN false b (p + e + 1)) := by
  intro m
  induction m with
  | zero => intro x p h; omega
  | succ m ih =>
    intro x p hlt he j t hj hlen
    obtain ⟨⟨k, n, e0⟩, ha⟩ : ∃ a, firstN (x.drop (gapN false x)) = a := ⟨_, rfl⟩
    have hu := lex_unfold false x p _ ha
    have hE : e0 = 0 := by
      rw [hu] at he
      by_cases h : e0 = 0
      · exact h
      · simp [h] at he
    subst hE
    have hgl := gapN_le false x
    have hfl := firstN_le (x.drop (gapN false x))
    rw [ha, List.length_drop] at hfl
    simp only at hfl
    obtain ⟨g, hg⟩ : ∃ g, gapN false x = g := ⟨_, rfl⟩
    rw [hg] at hu ha hgl hfl
    simp only [ne_eq, not_true_eq_false, if_false] at hu
    by_cases hn : n = 0
    · rw [if_pos hn] at hu
      rw [hu] at hlen
      simp at hlen
    · rw [if_neg hn] at hu
      have he2 : (lexN false ((x.drop g).drop n) (p + g + n)).2.1 = 0 := by
        rw [hu] at he
        unfold comb at he
        by_cases h3 : (lexN false ((x.drop g).drop n) (p + g + n)).2.1 = 0
        · exact h3
        · rw [if_pos h3] at he; exact absurd he h3
      have hu2 : lexN false x p = (⟨k, (x.drop g).take n, p + g⟩ :: (lexN false ((x.drop g).drop n) (p + g + n)).1, 0, 0) := by
        rw [hu]
        unfold comb
        rw [if_neg (by rw [he2]; simp)]
        rfl
      clear hu
      rw [hu2] at hj hlen
      have step : ∀ e, g + n ≤ e → lexN false (x.take e ++ 32 :: b) p = comb [⟨k, (x.drop g).take n, p + g⟩] (lexN false (((x.drop g).drop n).take (e - (g + n)) ++ 32 :: b) (p + g + n)) := by
        intro e hge
        have hgc : gapN false (x.take e ++ 32 :: b) = g := by
          have h1 : gapN false (x.take e) = g := by rw [gap_cut _ _ _ (by omega), hg]
          rw [gap_app _ (by rw [h1, List.length_take]; omega), h1]
        have hd : (x.take e ++ 32 :: b).drop g = (x.drop g).take (e - g) ++ 32 :: b := by rw [List.drop_append_of_le_length (by rw [List.length_take]; omega), List.drop_take]
        have hne : (x.drop g).take (e - g) ≠ [] := by
          intro h
          have : ((x.drop g).take (e - g)).length = 0 := by rw [h]; rfl
          rw [List.length_take, List.length_drop] at this
          omega
        have hfc : firstN ((x.take e ++ 32 :: b).drop (gapN false (x.take e ++ 32 :: b))) = (k, n, 0) := by rw [hgc, hd, first_blank hne]; exact first_cut ha (by omega) (by omega)
        have hv := lex_unfold false (x.take e ++ 32 :: b) p _ hfc
        rw [hgc, hd] at hv
        simp only [ne_eq, not_true_eq_false, if_false] at hv
        rw [if_neg hn] at hv
        have hln : n ≤ ((x.drop g).take (e - g)).length := by rw [List.length_take, List.length_drop]; omega
        rw [hv, List.take_append_of_le_length hln, List.drop_append_of_le_length hln, List.take_take, Nat.min_eq_left (by omega), List.drop_take]
        congr 4
        omega
      cases j with
      | zero =>
        simp only [List.getElem?_cons_zero, Option.some.injEq] at hj
        subst hj
        have hln : ((x.drop g).take n).length = n := by rw [List.length_take, List.length_drop]; omega
        refine ⟨g + n, by rw [hln]; show p + (g + n) = p + g + n; omega, by omega, ?_⟩
        rw [step (g + n) (Nat.le_refl _), hu2, Nat.sub_self, List.take_zero, List.nil_append, lex_blank rfl, show p + (g + n) + 1 = p + g + n + 1 by omega]
        rfl
      | succ j =>
        simp only [List.getElem?_cons_succ] at hj
        simp only [List.length_cons] at hlen
        have hlt2 : ((x.drop g).drop n).length < m := by simp only [List.length_drop]; omega
        obtain ⟨e, e1, e2, e3⟩ := ih _ _ hlt2 he2 j t hj (by omega)
        simp only [List.length_drop] at e2
        refine ⟨g + n + e, by omega, by omega, ?_⟩
        rw [step (g + n + e) (by omega), show g + n + e - (g + n) = e by omega, e3, hu2, comb_comb, show p + (g + n + e) + 1 = p + g + n + e + 1 by omega]
        rfl
/-- A name opens with a letter. -/
theorem first_name {l : List Nat} {n : Nat} (h : firstN l = (1, n, 0)) : headIs isL l = true := by
  unfold firstN at h
  split at h
  · simp at h
  · split at h
    · rename_i h1; exact h1
    · split at h
      · unfold numberN at h
        split at h
        · simp at h
        · split at h <;> simp at h
      · unfold signN at h
        split at h
        · simp at h
        · split at h <;> simp at h
theorem lex_names : ∀ (m : Nat) (x : List Nat) (p : Nat), x.length < m → (lexN false x p).2.1 = 0 → ∀ t ∈ (lexN false x p).1, t.k = 1 → headIs isL t.t = true := by
  intro m
  induction m with
  | zero => intro x p h; omega
  | succ m ih =>
    intro x p hlt he t ht hk1
    obtain ⟨⟨k, n, e0⟩, ha⟩ : ∃ a, firstN (x.drop (gapN false x)) = a := ⟨_, rfl⟩
    have hu := lex_unfold false x p _ ha
    have hE : e0 = 0 := by
      rw [hu] at he
      by_cases h : e0 = 0
      · exact h
      · simp [h] at he
    subst hE
    have hF := firstN_end ha
    simp only [ne_eq, not_true_eq_false, if_false] at hu
    by_cases hn : n = 0
    · rw [if_pos hn] at hu
      rw [hu] at ht
      simp only [List.mem_singleton] at ht
      subst ht
      have hk1 : k = 1 := hk1
      subst hk1
      by_cases hd : x.drop (gapN false x) = []
      · have := (hF.1 hd).1; omega
      · have := (hF.2 hd).2; omega
    · rw [if_neg hn] at hu
      have hd : x.drop (gapN false x) ≠ [] := fun hd => hn (hF.1 hd).2
      have he2 : (lexN false ((x.drop (gapN false x)).drop n) (p + gapN false x + n)).2.1 = 0 := by
        rw [hu] at he
        unfold comb at he
        by_cases h3 : (lexN false ((x.drop (gapN false x)).drop n) (p + gapN false x + n)).2.1 = 0
        · exact h3
        · rw [if_pos h3] at he; exact absurd he h3
      rw [hu] at ht
      unfold comb at ht
      rw [if_neg (by rw [he2]; simp)] at ht
      simp only [List.singleton_append, List.mem_cons] at ht
      rcases ht with rfl | ht
      · have hk1 : k = 1 := hk1
        subst hk1
        show headIs isL ((x.drop (gapN false x)).take n) = true
        rw [head_cut _ _ _ (by omega)]
        exact first_name ha
      · have hp : 0 < (x.drop (gapN false x)).length := List.length_pos_iff.2 hd
        exact ih _ _ (by simp only [List.length_drop] at hp ⊢; omega) he2 t ht hk1
theorem name_no {t : List Nat} (h : headIs isL t = true) : t ≠ [45] ∧ t ≠ [40] := by
  refine ⟨fun e => ?_, fun e => ?_⟩ <;> (subst e; simp [headIs, isL] at h)
/-- Places rise. -/
theorem chain_rise {l : List Nat} : ∀ {L : List Tk} {n : Nat}, Chain l n L → ∀ i, i < L.length → ∀ t, L[i]? = some t → n ≤ t.p ∧ ∀ j u, i < j → L[j]? = some u → t.p < u.p
  | [], n, h => absurd h (by simp [Chain])
  | a :: r, n, h => by
    obtain ⟨h1, h2, -, -, h5, h6⟩ := h
    have hpos : r ≠ [] → 0 < a.t.length := fun hr => List.length_pos_iff.2 (fun e => hr (h5.1 e))
    intro i hi t ht
    cases i with
    | zero =>
      simp only [List.getElem?_cons_zero, Option.some.injEq] at ht
      subst ht
      refine ⟨h1, fun j u hj hu => ?_⟩
      match j, hj with
      | j + 1, _ =>
        simp only [List.getElem?_cons_succ] at hu
        have hlt : j < r.length := by
          rcases Nat.lt_or_ge j r.length with h | h
          · exact h
          · rw [List.getElem?_eq_none h] at hu; simp at hu
        have hr : r ≠ [] := by intro e; subst e; simp at hlt
        have := (chain_rise (h6.resolve_left hr) j hlt u hu).1
        have := hpos hr
        omega
    | succ i =>
      simp only [List.getElem?_cons_succ] at ht
      simp only [List.length_cons] at hi
      have hr : r ≠ [] := by intro e; subst e; simp at hi
      obtain ⟨q1, q2⟩ := chain_rise (h6.resolve_left hr) i (by omega) t ht
      refine ⟨by omega, fun j u hj hu => ?_⟩
      match j, hj with
      | j + 1, hj =>
        simp only [List.getElem?_cons_succ] at hu
        exact q2 j u (by omega) hu
end Go.Proofs.YtjofhaakkleecaaDoor
