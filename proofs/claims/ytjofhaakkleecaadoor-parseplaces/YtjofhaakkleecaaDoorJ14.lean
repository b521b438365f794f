/-
  Plain mathematics of tokens: where they stand, and what two texts have together.
-/
import Derived.Test.YtjofhaakkleecaaDoorJ7
namespace Go.Proofs.YtjofhaakkleecaaDoor
open Lx
set_option linter.unusedVariables false
set_option maxRecDepth 100000
set_option linter.unusedSimpArgs false

/-- Bytes that are blanks and remarks alone. -/
def gapOk : Bool → List Nat → Bool
  | _, [] => true
  | rem, c :: r => ((rem && c != 10 || c == 35) || isB c) && gapOk (rem && c != 10 || c == 35) r
theorem gapOk_gap (rem : Bool) (l : List Nat) : gapOk rem (l.take (gapN rem l)) = true := by
  induction l generalizing rem with
  | nil => simp [gapOk]
  | cons c r ih =>
    unfold gapN
    by_cases h1 : rem = true ∧ c ≠ 10
    · obtain ⟨rfl, h2⟩ := h1
      rw [if_pos ⟨rfl, h2⟩, List.take_succ_cons]
      have e : (true && c != 10 || c == 35) = true := by simp [h2]
      unfold gapOk
      rw [e, ih]
      simp
    · rw [if_neg h1]
      have e : (rem && c != 10) = false := by
        cases rem
        · rfl
        · simp at h1; simp [h1]
      by_cases h2 : isB c = true
      · rw [if_pos h2, List.take_succ_cons]
        have h35 : (c == 35) = false := by
          rw [Bool.eq_false_iff]; intro h; simp at h; subst h; simp [isB] at h2
        unfold gapOk
        rw [e, h35, h2]
        simpa using ih false
      · rw [if_neg h2]
        by_cases h3 : c = 35
        · rw [if_pos h3, List.take_succ_cons]
          subst h3
          unfold gapOk
          rw [e]
          simpa using ih true
        · rw [if_neg h3, List.take_zero]
          rfl

/-- Tokens that stand one behind the other from n on. -/
def Chain (l : List Nat) : Nat → List Tk → Prop
  | _, [] => False
  | n, t :: r => n ≤ t.p ∧ t.p + t.t.length ≤ l.length ∧ t.t = (l.drop t.p).take t.t.length ∧ gapOk false ((l.drop n).take (t.p - n)) = true ∧ (t.t = [] ↔ r = []) ∧ (r = [] ∨ Chain l (t.p + t.t.length) r)

theorem lex_ne {rem : Bool} {l : List Nat} {p : Nat} (h : (lexN rem l p).2.1 = 0) : (lexN rem l p).1 ≠ [] := by
  rw [lex_unfold rem l p _ rfl] at h ⊢
  split
  · rename_i h1; rw [if_pos h1] at h; exact absurd h h1
  · rename_i h1
    rw [if_neg h1] at h
    split
    · simp
    · rename_i h2
      rw [if_neg h2] at h
      unfold comb at h ⊢
      split
      · rename_i h3; rw [if_pos h3] at h; exact absurd h h3
      · simp

theorem chain_of (l : List Nat) : ∀ (m p : Nat), l.length - p < m → p ≤ l.length → (lexN false (l.drop p) p).2.1 = 0 → Chain l p (lexN false (l.drop p) p).1 := by
  intro m
  induction m with
  | zero => intro p h; omega
  | succ m ih =>
    intro p hm hp he
    have hu := lex_unfold false (l.drop p) p _ rfl
    obtain ⟨g, hg⟩ : ∃ g, g = gapN false (l.drop p) := ⟨_, rfl⟩
    have hgl := gapN_le false (l.drop p)
    have hok := gapOk_gap false (l.drop p)
    rw [← hg] at hu hgl hok
    rw [List.length_drop] at hgl
    obtain ⟨⟨k, n, x⟩, ha⟩ : ∃ a, firstN ((l.drop p).drop g) = a := ⟨_, rfl⟩
    rw [ha] at hu
    have hfl := firstN_le ((l.drop p).drop g)
    rw [ha] at hfl
    simp only [List.length_drop] at hfl
    rw [hu] at he ⊢
    by_cases hx : x = 0
    · subst hx
      simp only [ne_eq, not_true_eq_false, if_false] at he ⊢
      have hE := firstN_end ha
      by_cases hn : n = 0
      · subst hn
        simp only [if_true] at he ⊢
        have hnil : (l.drop p).drop g = [] := Classical.byContradiction (fun h => by have := (hE.2 h).2; omega)
        exact ⟨by simp, by simp; omega, by simp, by simpa [Nat.add_sub_cancel_left] using hok, by simp, .inl rfl⟩
      · rw [if_neg hn] at he ⊢
        have hne : (l.drop p).drop g ≠ [] := fun h => by have := (hE.1 h).2; omega
        have hdd : ((l.drop p).drop g).drop n = l.drop (p + g + n) := by rw [List.drop_drop, List.drop_drop]; congr 1; omega
        have hlen : (((l.drop p).drop g).take n).length = n := by rw [List.length_take, List.length_drop, List.length_drop]; omega
        rw [hdd] at he ⊢
        have he2 : (lexN false (l.drop (p + g + n)) (p + g + n)).2.1 = 0 := by
          unfold comb at he
          by_cases h3 : (lexN false (l.drop (p + g + n)) (p + g + n)).2.1 = 0
          · exact h3
          · rw [if_pos h3] at he; exact absurd he h3
        have hc := ih (p + g + n) (by omega) (by omega) he2
        have hnn := lex_ne he2
        have hcomb : (comb [⟨k, ((l.drop p).drop g).take n, p + g⟩] (lexN false (l.drop (p + g + n)) (p + g + n))).1 = ⟨k, ((l.drop p).drop g).take n, p + g⟩ :: (lexN false (l.drop (p + g + n)) (p + g + n)).1 := by
          unfold comb
          rw [if_neg (by simp [he2])]
          rfl
        show Chain l p (comb [⟨k, ((l.drop p).drop g).take n, p + g⟩] (lexN false (l.drop (p + g + n)) (p + g + n))).1
        rw [hcomb]
        refine ⟨by simp, ?_, ?_, by simpa [Nat.add_sub_cancel_left] using hok, ?_, .inr ?_⟩
        · simp only [hlen]; omega
        · simp only [hlen]; rw [List.drop_drop]
        · constructor
          · intro h
            have h5 : ((l.drop p).drop g).take n = [] := h
            rw [h5] at hlen
            simp at hlen
            omega
          · intro h; exact absurd h hnn
        · simp only [hlen]; exact hc
    · simp only [ne_eq, hx, not_false_eq_true, if_true] at he

theorem chain_lex (l : List Nat) (h : (lexS l).2.1 = 0) : Chain l 0 (lexS l).1 := by
  unfold lexS at h ⊢
  split
  · rename_i h1; rw [if_pos h1] at h; simp at h
  · rename_i h1
    rw [if_neg h1] at h
    have := chain_of l (l.length + 1) 0 (by omega) (Nat.zero_le _) (by rw [List.drop_zero]; exact h)
    rw [List.drop_zero] at this
    exact this

end Go.Proofs.YtjofhaakkleecaaDoor
