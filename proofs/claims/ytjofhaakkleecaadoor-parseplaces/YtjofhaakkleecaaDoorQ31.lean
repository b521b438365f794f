/-
  Plain mathematics: the tokens' texts, blanks and remarks between, are the same tokens again.
-/
import Derived.Test.YtjofhaakkleecaaDoorQ30
namespace Go.Proofs.YtjofhaakkleecaaDoor
open Go.RowKit Lx
set_option linter.unusedVariables false
set_option maxRecDepth 100000
set_option linter.unusedSimpArgs false

def sepN : Nat → List Nat
  | 0 => [32]
  | 1 => [10]
  | 2 => [32, 35, 32, 114, 101, 109, 97, 114, 107, 32, 59, 32, 120, 32, 61, 32, 10]
  | _ => [9, 13, 10]
/-- The texts of tokens, what stands between turning round. -/
def joinB : Nat → List Tk → List Nat
  | _, [] => []
  | i, t :: r => sepN (i % 4) ++ (t.t ++ joinB (i + 1) r)
theorem sep_gap (n : Nat) (b : List Nat) : gapN false (sepN n ++ b) = (sepN n).length + gapN false b := by
  unfold sepN
  split <;> simp [gapN, isB] <;> omega
theorem sep_head (n : Nat) : ∃ c r, sepN n = c :: r ∧ isL c = false ∧ isD c = false ∧ isW c = false ∧ (∀ a, [a, c] ∉ twos) ∧ (c == 48) = false ∧ c ∉ ones := by
  unfold sepN
  split
  · exact ⟨32, [], rfl, rfl, rfl, rfl, by simp [twos], rfl, by decide⟩
  · exact ⟨10, [], rfl, rfl, rfl, rfl, by simp [twos], rfl, by decide⟩
  · exact ⟨32, _, rfl, rfl, rfl, rfl, by simp [twos], rfl, by decide⟩
  · exact ⟨9, _, rfl, rfl, rfl, rfl, by simp [twos], rfl, by decide⟩
/-- A token by itself. -/
def Each : List Tk → Prop
  | [] => False
  | [e] => e.k = 0 ∧ e.t = []
  | t :: r => (firstN t.t = (t.k, t.t.length, 0) ∧ t.t ≠ []) ∧ Each r
theorem each_cons {t : Tk} {r : List Tk} (h : firstN t.t = (t.k, t.t.length, 0) ∧ t.t ≠ []) (hr : Each r) : Each (t :: r) := by
  cases r with
  | nil => exact hr.elim
  | cons a b => exact ⟨h, hr⟩
theorem lex_each : ∀ (m : Nat) (x : List Nat) (p : Nat), x.length < m → (lexN false x p).2.1 = 0 → Each (lexN false x p).1 := by
  intro m
  induction m with
  | zero => intro x p h; omega
  | succ m ih =>
    intro x p hlt he
    obtain ⟨⟨k, n, e0⟩, ha⟩ : ∃ a, firstN (x.drop (gapN false x)) = a := ⟨_, rfl⟩
    have hu := lex_unfold false x p _ ha
    have hE : e0 = 0 := by
      rw [hu] at he
      by_cases h : e0 = 0
      · exact h
      · simp [h] at he
    subst hE
    have hF := firstN_end ha
    have hfl := firstN_le (x.drop (gapN false x))
    rw [ha] at hfl
    simp only at hfl
    simp only [ne_eq, not_true_eq_false, if_false] at hu
    by_cases hn : n = 0
    · rw [if_pos hn] at hu
      rw [hu]
      have hd : x.drop (gapN false x) = [] := Classical.byContradiction fun hd => by have := (hF.2 hd).2; omega
      exact ⟨(hF.1 hd).1, rfl⟩
    · rw [if_neg hn] at hu
      have hd : x.drop (gapN false x) ≠ [] := fun hd => hn (hF.1 hd).2
      have hp : 0 < (x.drop (gapN false x)).length := List.length_pos_iff.2 hd
      have he2 : (lexN false ((x.drop (gapN false x)).drop n) (p + gapN false x + n)).2.1 = 0 := by
        rw [hu] at he
        unfold comb at he
        by_cases h3 : (lexN false ((x.drop (gapN false x)).drop n) (p + gapN false x + n)).2.1 = 0
        · exact h3
        · rw [if_pos h3] at he; exact absurd he h3
      have hi := ih _ _ (by simp only [List.length_drop] at hp ⊢; omega) he2
      rw [hu]
      unfold comb
      rw [if_neg (by rw [he2]; simp)]
      have hln : ((x.drop (gapN false x)).take n).length = n := by rw [List.length_take]; omega
      refine each_cons ⟨?_, ?_⟩ hi
      · show firstN ((x.drop (gapN false x)).take n) = (k, ((x.drop (gapN false x)).take n).length, 0)
        rw [hln]
        exact first_cut ha (by omega) (Nat.le_refl _)
      · show (x.drop (gapN false x)).take n ≠ []
        intro h
        rw [h] at hln
        simp at hln
        omega
theorem first_nogap {c : Nat} {r : List Nat} {k n : Nat} (h : firstN (c :: r) = (k, n, 0)) : isB c = false ∧ c ≠ 35 := by
  have key : ∀ c, (c = 32 ∨ c = 9 ∨ c = 10 ∨ c = 13 ∨ c = 35) → ∀ r k n, firstN (c :: r) ≠ (k, n, 0) := by
    intro c hc r k n e
    have h1 : headIs isL (c :: r) = false := by rcases hc with rfl | rfl | rfl | rfl | rfl <;> rfl
    have h2 : headIs isD (c :: r) = false := by rcases hc with rfl | rfl | rfl | rfl | rfl <;> rfl
    have h3 : headIs (fun c => decide (c ∈ ones)) (c :: r) = false := by rcases hc with rfl | rfl | rfl | rfl | rfl <;> rfl
    have h4 : (c :: r).take 2 ∉ twos := by rcases hc with rfl | rfl | rfl | rfl | rfl <;> simp [twos]
    unfold firstN at e
    rw [if_neg (by simp), h1, if_neg (by simp), h2, if_neg (by simp)] at e
    unfold signN at e
    rw [if_neg h4, h3, if_neg (by simp)] at e
    simp at e
  constructor
  · by_cases hb : isB c = true
    · simp only [isB, Bool.or_eq_true, beq_iff_eq] at hb
      exact absurd h (key c (by omega) r k n)
    · simpa using hb
  · intro e
    exact key c (by omega) r k n h
theorem joinB_lex : ∀ (L : List Tk) (i p : Nat), Each L → ∃ M, lexN false (joinB i L) p = (M, 0, 0) ∧ M.map (fun t => (t.k, t.t)) = L.map (fun t => (t.k, t.t))
  | [], i, p, h => h.elim
  | [e], i, p, h => by
    have hg : gapN false (sepN (i % 4) ++ []) = (sepN (i % 4)).length + gapN false [] := sep_gap _ _
    refine ⟨[⟨0, [], p + (sepN (i % 4)).length⟩], ?_, by simp [h.1, h.2]⟩
    unfold joinB joinB
    rw [h.2, List.nil_append, lex_gone hg, lex_unfold false [] _ _ rfl]
    simp [firstN_nil, gapN]
  | t :: a :: r, i, p, h => by
    obtain ⟨⟨h1, h2⟩, h3⟩ := h
    obtain ⟨M, hM, hm⟩ := joinB_lex (a :: r) (i + 1) (p + (sepN (i % 4)).length + t.t.length) h3
    refine ⟨⟨t.k, t.t, p + (sepN (i % 4)).length⟩ :: M, ?_, by simp only [List.map_cons] at hm ⊢; rw [hm]⟩
    have e : joinB i (t :: a :: r) = sepN (i % 4) ++ (t.t ++ joinB (i + 1) (a :: r)) := rfl
    obtain ⟨c, q, hc, q1, q2, q3, q4, q5, q6⟩ := sep_head ((i + 1) % 4)
    have e2 : ∃ y, joinB (i + 1) (a :: r) = c :: y := ⟨q ++ (a.t ++ joinB (i + 1 + 1) r), by show sepN ((i + 1) % 4) ++ (a.t ++ joinB (i + 1 + 1) r) = _; rw [hc]; rfl⟩
    obtain ⟨y, hy⟩ := e2
    have hg0 : gapN false (t.t ++ joinB (i + 1) (a :: r)) = 0 := by
      cases ht : t.t with
      | nil => exact absurd ht h2
      | cons b s =>
        rw [ht] at h1
        obtain ⟨g1, g2⟩ := first_nogap h1
        rw [List.cons_append]
        unfold gapN
        rw [if_neg (by simp), g1, if_neg (by simp), if_neg g2]
    have hf : firstN ((t.t ++ joinB (i + 1) (a :: r)).drop (gapN false (t.t ++ joinB (i + 1) (a :: r)))) = (t.k, t.t.length, 0) := by
      rw [hg0, List.drop_zero, hy, first_app _ _ _ h2 q1 q2 q3 q4 q5 q6]
      exact h1
    rw [e, lex_gone (sep_gap _ _), lex_unfold _ _ _ _ hf, hg0]
    simp only [ne_eq, not_true_eq_false, if_false, List.drop_zero]
    rw [if_neg (by rw [List.length_eq_zero_iff]; exact h2), List.drop_left, List.take_left, Nat.add_zero, hM]
    rfl
/-- How long it is. -/
def potN : Nat → Nat
  | 0 => 10
  | 1 => 28
  | 2 => 46
  | _ => 0
def textsN : List Tk → Nat
  | [] => 0
  | t :: r => t.t.length + textsN r
theorem joinB_len : ∀ (L : List Tk) (i : Nat), 4 * (joinB i L).length ≤ 4 * textsN L + 22 * L.length + potN (i % 4)
  | [], i => by simp [joinB, textsN]
  | t :: r, i => by
    have ih := joinB_len r (i + 1)
    have hs : 4 * (sepN (i % 4)).length + potN ((i + 1) % 4) ≤ 22 + potN (i % 4) := by
      have h4 : i % 4 = 0 ∨ i % 4 = 1 ∨ i % 4 = 2 ∨ i % 4 = 3 := by omega
      rcases h4 with h | h | h | h
      · rw [h, show (i + 1) % 4 = 1 by omega]; decide
      · rw [h, show (i + 1) % 4 = 2 by omega]; decide
      · rw [h, show (i + 1) % 4 = 3 by omega]; decide
      · rw [h, show (i + 1) % 4 = 0 by omega]; decide
    unfold joinB textsN
    simp only [List.length_append, List.length_cons]
    omega
theorem chain_texts {l : List Nat} : ∀ {L : List Tk} {n : Nat}, Chain l n L → textsN L + n ≤ l.length ∧ L.length + n ≤ l.length + 1
  | [], n, h => absurd h (by simp [Chain])
  | t :: r, n, h => by
    obtain ⟨h1, h2, -, -, h5, h6⟩ := h
    rcases h6 with h6 | h6
    · subst h6
      simp [textsN]
      omega
    · obtain ⟨q1, q2⟩ := chain_texts h6
      have h8 : 0 < t.t.length := List.length_pos_iff.2 (fun e => by have := h5.1 e; subst this; exact absurd h6 (by simp [Chain]))
      simp only [textsN, List.length_cons]
      omega
theorem pot_le (n : Nat) : potN n ≤ 46 := by unfold potN; split <;> omega
theorem blanks_len {a : List Nat} (ha : (lexS a).2.1 = 0) (za : a.length ≤ 600) (i : Nat) : (joinB i (lexS a).1).length ≤ 4000 := by
  obtain ⟨h1, h2⟩ := chain_texts (chain_lex a ha)
  have := joinB_len (lexS a).1 i
  have := pot_le (i % 4)
  omega
/-- The program is the same. -/
theorem blanks_math {a : List Nat} (ha : (lexS a).2.1 = 0) (za : a.length ≤ 600) (i : Nat) : (progS (joinB i (lexS a).1)).1 = (progS a).1 ∧ (progS (joinB i (lexS a).1)).2.1 = (progS a).2.1 := by
  have s1 : lexS a = lexN false a 0 := by unfold lexS; rw [if_neg (by omega)]
  have hE : Each (lexS a).1 := by rw [s1]; exact lex_each (a.length + 1) a 0 (by omega) (by rw [← s1]; exact ha)
  obtain ⟨M, hM, hm⟩ := joinB_lex (lexS a).1 i 0 hE
  have hz := blanks_len ha za i
  have hj : lexS (joinB i (lexS a).1) = (M, 0, 0) := by unfold lexS at hz hM hm ⊢; rw [if_neg (by omega)]; exact hM
  have hlen : M.length = (lexS a).1.length := by have := congrArg List.length hm; simpa using this
  have hlike : ∀ j, (tks M j).k = (tks (lexS a).1 j).k ∧ (tks M j).t = (tks (lexS a).1 j).t := by
    intro j
    have h1 : (M.map (fun t => (t.k, t.t)))[j]? = ((lexS a).1.map (fun t => (t.k, t.t)))[j]? := by rw [hm]
    rw [List.getElem?_map, List.getElem?_map] at h1
    unfold tks
    rw [List.getD_eq_getElem?_getD, List.getD_eq_getElem?_getD]
    cases hq : M[j]? with
    | none =>
      rw [hq] at h1
      cases hq2 : (lexS a).1[j]? with
      | none => exact ⟨rfl, rfl⟩
      | some u => rw [hq2] at h1; simp at h1
    | some v =>
      rw [hq] at h1
      cases hq2 : (lexS a).1[j]? with
      | none => rw [hq2] at h1; simp at h1
      | some u => rw [hq2] at h1; simpa using h1
  have hpp := prog_same (M := M) (k := (progR (tks (lexS a).1) 8200).at) ha (fun j _ => hlike j) (Nat.le_refl _)
  unfold progS
  rw [hj]
  simp only [ne_eq, not_true_eq_false, if_false]
  rw [if_neg (by simpa using ha), hpp]
  cases progR (tks (lexS a).1) 8200 <;> exact ⟨rfl, rfl⟩
end Go.Proofs.YtjofhaakkleecaaDoor
