/-
  Plain mathematics: an error of the parser stays, whatever stands behind its token.
-/
import Derived.Test.YtjofhaakkleecaaDoorQ24
import Derived.Test.YtjofhaakkleecaaDoorQ28
import Derived.Test.YtjofhaakkleecaaDoorQ29
namespace Go.Proofs.YtjofhaakkleecaaDoor
open Go.RowKit Lx
set_option linter.unusedVariables false
set_option maxRecDepth 100000
set_option linter.unusedSimpArgs false

theorem lexS_pair {l : List Nat} (h : (lexS l).2.1 = 0) : lexS l = ((lexS l).1, 0, 0) := by
  unfold lexS at h ⊢
  split
  · rename_i h1; rw [if_pos h1] at h; simp at h
  · rename_i h1
    rw [if_neg h1] at h
    exact Prod.ext rfl (Prod.ext h ((lex_shape false l 0).2 h))
theorem names_like {l : List Nat} (h : (lexS l).2.1 = 0) (i : Nat) (hk : (tks (lexS l).1 i).k = 1) : (tks (lexS l).1 i).t ≠ [45] ∧ (tks (lexS l).1 i).t ≠ [40] := by
  by_cases hi : i < (lexS l).1.length
  · rw [tks_get hi] at hk ⊢
    refine name_no ?_
    have hm : (lexS l).1[i] ∈ (lexS l).1 := List.getElem_mem hi
    generalize (lexS l).1[i] = t at *
    unfold lexS at h hm
    split at hm
    · simp at hm
    · rename_i h1
      rw [if_neg h1] at h
      exact lex_names (l.length + 1) l 0 (by omega) h t hm hk
  · exfalso
    unfold tks at hk
    rw [List.getD_eq_getElem?_getD, List.getElem?_eq_none (by omega)] at hk
    simp at hk
/-- Two texts whose tokens are alike up to where the parser tells: it tells the same of both. -/
theorem prog_same {a : List Nat} {M : List Tk} {k : Nat} (ha : (lexS a).2.1 = 0) (h : ∀ i, i ≤ k → (tks M i).k = (tks (lexS a).1 i).k ∧ (tks M i).t = (tks (lexS a).1 i).t) (hk : (progR (tks (lexS a).1) 8200).at ≤ k) :
    progR (tks M) 8200 = progR (tks (lexS a).1) 8200 :=
  prog_like (F := 8199) ⟨fun i hi => (h i hi).1, fun i hi => (h i hi).2, fun i hi => names_like ha i hi⟩ hk
theorem places_math {a b : List Nat} (ha : (lexS a).2.1 = 0) (hb : (lexS b).2.1 = 0) (za : a.length ≤ 600) (zb : b.length ≤ 600) {x k : Nat} (hp : progR (tks (lexS a).1) 8200 = .bad x k) (hk : k + 1 < (lexS a).1.length) :
    progS (a.take ((tks (lexS a).1 k).p + (tks (lexS a).1 k).t.length) ++ [32] ++ b) = ([], x, (tks (lexS a).1 k).p) := by
  have s1 : lexS a = lexN false a 0 := by unfold lexS; rw [if_neg (by omega)]
  obtain ⟨t, ht⟩ : ∃ t, tks (lexS a).1 k = t := ⟨_, rfl⟩
  have hgt : (lexS a).1[k]? = some t := by
    rw [← ht, tks_get (by omega)]
    exact List.getElem?_eq_getElem _
  rw [ht]
  obtain ⟨e, e1, e2, e3⟩ := lex_cut_join b (a.length + 1) a 0 (by omega) (by rw [← s1]; exact ha) k t (by rw [← s1]; exact hgt) (by rw [← s1]; exact hk)
  rw [← s1] at e3
  have hb2 : lexN false b (0 + e + 1) = ((lexS b).1.map (shT (e + 1)), 0, 0) := by
    have s3 : lexS b = lexN false b 0 := by unfold lexS; rw [if_neg (by omega)]
    have := lex_shift (e + 1) (b.length + 1) false b 0 (by omega) (by rw [← s3]; exact hb)
    rw [← s3] at this
    rw [show 0 + e + 1 = 0 + (e + 1) by omega, this]
  obtain ⟨M, hM⟩ : ∃ M, M = (lexS a).1.take (k + 1) ++ (lexS b).1.map (shT (e + 1)) := ⟨_, rfl⟩
  have hj : lexS (a.take e ++ [32] ++ b) = (M, 0, 0) := by
    have : lexS (a.take e ++ [32] ++ b) = lexN false (a.take e ++ 32 :: b) 0 := by
      unfold lexS
      rw [if_neg (by simp only [List.length_append, List.length_take, List.length_cons, List.length_nil]; omega), List.append_assoc]
      rfl
    rw [this, e3, hb2]
    unfold comb
    rw [hM]
    rfl
  rw [show t.p + t.t.length = e by omega]
  have hlike : ∀ i, i ≤ k → tks M i = tks (lexS a).1 i := by
    intro i hi
    have h1 : M[i]? = (lexS a).1[i]? := by
      rw [hM, List.getElem?_append_left (by rw [List.length_take]; omega), List.getElem?_take, if_pos (by omega)]
    unfold tks
    rw [List.getD_eq_getElem?_getD, List.getD_eq_getElem?_getD, h1]
  have hpp := prog_same (M := M) (k := k) ha (fun i hi => by rw [hlike i hi]; exact ⟨rfl, rfl⟩) (by rw [hp]; exact Nat.le_refl _)
  unfold progS
  rw [hj]
  simp only [ne_eq, not_true_eq_false, if_false]
  rw [hpp, hp]
  simp only
  rw [hlike k (Nat.le_refl _), ht]
/-- Where the parser tells is a token. -/
theorem prog_at {T : List Tk} (ok : Tks.Ok T) (F : Nat) : (progR (tks T) F).at < T.length := by
  have h1 := proc_fine ok F ok.pos
  unfold progR
  cases hq : procR (tks T) F 0 with
  | bad x j => rw [hq] at h1; exact h1
  | ok p j =>
    rw [hq] at h1
    have h2 := procsM_fine ok F F [p] h1.2
    simp only [R.bind]
    cases hq2 : procsM (tks T) F F [p] j with
    | bad x j => rw [hq2] at h2; exact h2
    | ok l j => rw [hq2] at h2; exact h2.2
theorem places_of {a : List Nat} {x p : Nat} (ha : (lexS a).2.1 = 0) (hs : ∀ c ∈ a, c < 256) (h : progS a = ([], x, p)) (hx : x ≠ 0) : ∃ k, k < (lexS a).1.length ∧ progR (tks (lexS a).1) 8200 = .bad x k ∧ (tks (lexS a).1 k).p = p := by
  unfold progS at h
  rw [if_neg (by simpa using ha)] at h
  have hat := prog_at (lexS_ok hs ha).1 8200
  cases hq : progR (tks (lexS a).1) 8200 with
  | ok l j => rw [hq] at h; simp at h; omega
  | bad y j =>
    rw [hq] at h hat
    simp at h
    obtain ⟨rfl, rfl⟩ := h
    exact ⟨j, hat, rfl, rfl⟩
end Go.Proofs.YtjofhaakkleecaaDoor
