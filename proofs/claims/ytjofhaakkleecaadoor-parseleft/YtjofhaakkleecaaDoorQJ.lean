/-
  Plain mathematics of tokens: where they stand, and what two texts have together.
  Plain mathematics of tokens: two texts, a blank or a remark between.
-/
import Derived.Test.YtjofhaakkleecaaDoorJ7

namespace Go.Proofs.YtjofhaakkleecaaDoor
open Lx
set_option linter.unusedVariables false
set_option maxRecDepth 100000
set_option linter.unusedSimpArgs false

/-- Bytes that are blanks and remarks alone. -/
def gapOk : Bool → List Nat → Bool
  | _, [] => true
  | rem, c :: r => ((rem && c != 10 || c == 35) || isB c) && gapOk (rem && c != 10 || c == 35) r
theorem gapOk_gap (rem : Bool) (l : List Nat) : gapOk rem (l.take (gapN rem l)) = true := by
  induction l generalizing rem with
  | nil => simp [gapOk]
  | cons c r ih =>
    unfold gapN
    by_cases h1 : rem = true ∧ c ≠ 10
    · obtain ⟨rfl, h2⟩ := h1
      rw [if_pos ⟨rfl, h2⟩, List.take_succ_cons]
      have e : (true && c != 10 || c == 35) = true := by simp [h2]
      unfold gapOk
      rw [e, ih]
      simp
    · rw [if_neg h1]
      have e : (rem && c != 10) = false := by
        cases rem
        · rfl
        · simp at h1; simp [h1]
      by_cases h2 : isB c = true
      · rw [if_pos h2, List.take_succ_cons]
        have h35 : (c == 35) = false := by
          rw [Bool.eq_false_iff]; intro h; simp at h; subst h; simp [isB] at h2
        unfold gapOk
        rw [e, h35, h2]
        simpa using ih false
      · rw [if_neg h2]
        by_cases h3 : c = 35
        · rw [if_pos h3, List.take_succ_cons]
          subst h3
          unfold gapOk
          rw [e]
          simpa using ih true
        · rw [if_neg h3, List.take_zero]
          rfl

/-- Tokens that stand one behind the other from n on. -/
def Chain (l : List Nat) : Nat → List Tk → Prop
  | _, [] => False
  | n, t :: r => n ≤ t.p ∧ t.p + t.t.length ≤ l.length ∧ t.t = (l.drop t.p).take t.t.length ∧ gapOk false ((l.drop n).take (t.p - n)) = true ∧ (t.t = [] ↔ r = []) ∧ (r = [] ∨ Chain l (t.p + t.t.length) r)

theorem lex_ne {rem : Bool} {l : List Nat} {p : Nat} (h : (lexN rem l p).2.1 = 0) : (lexN rem l p).1 ≠ [] := by
  rw [lex_unfold rem l p _ rfl] at h ⊢
  split
  · rename_i h1; rw [if_pos h1] at h; exact absurd h h1
  · rename_i h1
    rw [if_neg h1] at h
    split
    · simp
    · rename_i h2
      rw [if_neg h2] at h
      unfold comb at h ⊢
      split
      · rename_i h3; rw [if_pos h3] at h; exact absurd h h3
      · simp

theorem chain_of (l : List Nat) : ∀ (m p : Nat), l.length - p < m → p ≤ l.length → (lexN false (l.drop p) p).2.1 = 0 → Chain l p (lexN false (l.drop p) p).1 := by
  intro m
  induction m with
  | zero => intro p h; omega
  | succ m ih =>
    intro p hm hp he
    have hu := lex_unfold false (l.drop p) p _ rfl
    obtain ⟨g, hg⟩ : ∃ g, g = gapN false (l.drop p) := ⟨_, rfl⟩
    have hgl := gapN_le false (l.drop p)
    have hok := gapOk_gap false (l.drop p)
    rw [← hg] at hu hgl hok
    rw [List.length_drop] at hgl
    obtain ⟨⟨k, n, x⟩, ha⟩ : ∃ a, firstN ((l.drop p).drop g) = a := ⟨_, rfl⟩
    rw [ha] at hu
    have hfl := firstN_le ((l.drop p).drop g)
    rw [ha] at hfl
    simp only [List.length_drop] at hfl
    rw [hu] at he ⊢
    by_cases hx : x = 0
    · subst hx
      simp only [ne_eq, not_true_eq_false, if_false] at he ⊢
      have hE := firstN_end ha
      by_cases hn : n = 0
      · subst hn
        simp only [if_true] at he ⊢
        have hnil : (l.drop p).drop g = [] := Classical.byContradiction (fun h => by have := (hE.2 h).2; omega)
        exact ⟨by simp, by simp; omega, by simp, by simpa [Nat.add_sub_cancel_left] using hok, by simp, .inl rfl⟩
      · rw [if_neg hn] at he ⊢
        have hne : (l.drop p).drop g ≠ [] := fun h => by have := (hE.1 h).2; omega
        have hdd : ((l.drop p).drop g).drop n = l.drop (p + g + n) := by rw [List.drop_drop, List.drop_drop]; congr 1; omega
        have hlen : (((l.drop p).drop g).take n).length = n := by rw [List.length_take, List.length_drop, List.length_drop]; omega
        rw [hdd] at he ⊢
        have he2 : (lexN false (l.drop (p + g + n)) (p + g + n)).2.1 = 0 := by
          unfold comb at he
          by_cases h3 : (lexN false (l.drop (p + g + n)) (p + g + n)).2.1 = 0
          · exact h3
          · rw [if_pos h3] at he; exact absurd he h3
        have hc := ih (p + g + n) (by omega) (by omega) he2
        have hnn := lex_ne he2
        have hcomb : (comb [⟨k, ((l.drop p).drop g).take n, p + g⟩] (lexN false (l.drop (p + g + n)) (p + g + n))).1 = ⟨k, ((l.drop p).drop g).take n, p + g⟩ :: (lexN false (l.drop (p + g + n)) (p + g + n)).1 := by
          unfold comb
          rw [if_neg (by simp [he2])]
          rfl
        show Chain l p (comb [⟨k, ((l.drop p).drop g).take n, p + g⟩] (lexN false (l.drop (p + g + n)) (p + g + n))).1
        rw [hcomb]
        refine ⟨by simp, ?_, ?_, by simpa [Nat.add_sub_cancel_left] using hok, ?_, .inr ?_⟩
        · simp only [hlen]; omega
        · simp only [hlen]; rw [List.drop_drop]
        · constructor
          · intro h
            have h5 : ((l.drop p).drop g).take n = [] := h
            rw [h5] at hlen
            simp at hlen
            omega
          · intro h; exact absurd h hnn
        · simp only [hlen]; exact hc
    · simp only [ne_eq, hx, not_false_eq_true, if_true] at he

theorem chain_lex (l : List Nat) (h : (lexS l).2.1 = 0) : Chain l 0 (lexS l).1 := by
  unfold lexS at h ⊢
  split
  · rename_i h1; rw [if_pos h1] at h; simp at h
  · rename_i h1
    rw [if_neg h1] at h
    have := chain_of l (l.length + 1) 0 (by omega) (Nat.zero_le _) (by rw [List.drop_zero]; exact h)
    rw [List.drop_zero] at this
    exact this

end Go.Proofs.YtjofhaakkleecaaDoor

namespace Go.Proofs.YtjofhaakkleecaaDoor
open Lx
set_option linter.unusedVariables false
set_option maxRecDepth 100000
set_option linter.unusedSimpArgs false

theorem gap_app {rem : Bool} {x : List Nat} (y : List Nat) (h : gapN rem x < x.length) : gapN rem (x ++ y) = gapN rem x := by
  induction x generalizing rem with
  | nil => simp at h
  | cons c r ih =>
    rw [List.cons_append]
    unfold gapN at h ⊢
    by_cases h1 : rem = true ∧ c ≠ 10
    · rw [if_pos h1] at h ⊢
      rw [if_pos h1, ih (by simp at h; omega)]
    · rw [if_neg h1] at h ⊢
      rw [if_neg h1]
      by_cases h2 : isB c = true
      · rw [if_pos h2] at h ⊢
        rw [if_pos h2, ih (by simp at h; omega)]
      · rw [if_neg h2] at h ⊢
        rw [if_neg h2]
        by_cases h3 : c = 35
        · rw [if_pos h3] at h ⊢
          rw [if_pos h3, ih (by simp at h; omega)]
        · rw [if_neg h3, if_neg h3]
/-- A text that is all gap, and what is gone over behind it. -/
theorem gap_over {x : List Nat} (y : List Nat) (k : Nat) (hy : ∀ rem, gapN rem y = k) : ∀ rem, gapN rem x = x.length → gapN rem (x ++ y) = x.length + k := by
  induction x with
  | nil => intro rem _; simp [hy]
  | cons c r ih =>
    intro rem h
    have hle := gapN_le true r
    have hle2 := gapN_le false r
    rw [List.cons_append]
    unfold gapN at h ⊢
    by_cases h1 : rem = true ∧ c ≠ 10
    · rw [if_pos h1] at h ⊢
      rw [ih true (by simp at h; omega)]; simp; omega
    · rw [if_neg h1] at h ⊢
      by_cases h2 : isB c = true
      · rw [if_pos h2] at h ⊢
        rw [ih false (by simp at h; omega)]; simp; omega
      · rw [if_neg h2] at h ⊢
        by_cases h3 : c = 35
        · rw [if_pos h3] at h ⊢
          rw [ih true (by simp at h; omega)]; simp; omega
        · rw [if_neg h3] at h
          simp at h
theorem span_app {p : Nat → Bool} (x : List Nat) (m : Nat) (y : List Nat) (hm : p m = false) : spanN p (x ++ m :: y) = spanN p x := by
  induction x with
  | nil => simp [spanN, hm]
  | cons c r ih => simp only [List.cons_append, spanN]; rw [ih]
theorem head_app {p : Nat → Bool} (x : List Nat) (m : Nat) (y : List Nat) (hm : p m = false) : headIs p (x ++ m :: y) = headIs p x := by
  cases x with
  | nil => simp [headIs, hm]
  | cons c r => rfl
theorem first_app (x : List Nat) (m : Nat) (y : List Nat) (hx : x ≠ []) (h1 : isL m = false) (h2 : isD m = false) (h3 : isW m = false) (h4 : ∀ c, [c, m] ∉ twos) (h5 : (m == 48) = false) (h6 : m ∉ ones) : firstN (x ++ m :: y) = firstN x := by
  have hd : ∀ k, k ≤ x.length → headIs isW ((x ++ m :: y).drop k) = headIs isW (x.drop k) := by
    intro k hk
    rw [List.drop_append_of_le_length hk]
    exact head_app _ _ _ h3
  have hw := spanN_le isW x
  have hdl := spanN_le isD x
  have hword : wordN (x ++ m :: y) = wordN x := by
    unfold wordN
    rw [span_app x m y h3, List.take_append_of_le_length hw]
  have hnum : numberN (x ++ m :: y) = numberN x := by
    unfold numberN
    rw [span_app x m y h2, hd _ hdl, head_app x m y h5]
  have hsign : signN (x ++ m :: y) = signN x := by
    unfold signN
    rw [head_app x m y (by simpa using h6)]
    have e : ((x ++ m :: y).take 2 ∈ twos) ↔ (x.take 2 ∈ twos) := by
      match x, hx with
      | [c], _ =>
        have q : ([c] ++ m :: y).take 2 = [c, m] := rfl
        rw [q]
        constructor
        · intro h; exact absurd h (h4 c)
        · intro h; simp [twos] at h
      | a :: b :: r, _ => exact Iff.rfl
    simp only [e]
  unfold firstN
  rw [if_neg (by simp), if_neg hx, head_app x m y h1, head_app x m y h2, hword, hnum, hsign]

/-- The tokens further on. -/
def shT (d : Nat) (t : Tk) : Tk := ⟨t.k, t.t, t.p + d⟩
theorem lex_shift (d : Nat) : ∀ (m : Nat) (rem : Bool) (l : List Nat) (p : Nat), l.length < m → (lexN rem l p).2.1 = 0 → lexN rem l (p + d) = ((lexN rem l p).1.map (shT d), 0, 0) := by
  intro m
  induction m with
  | zero => intro rem l p h; omega
  | succ m ih =>
    intro rem l p hm he
    obtain ⟨⟨k, n, x⟩, ha⟩ : ∃ a, firstN (l.drop (gapN rem l)) = a := ⟨_, rfl⟩
    have hu := lex_unfold rem l p _ ha
    have hv := lex_unfold rem l (p + d) _ ha
    have hE : x = 0 := by
      rw [hu] at he
      by_cases h : x = 0
      · exact h
      · simp [h] at he
    subst hE
    have hF := firstN_end ha
    rw [hu] at he ⊢
    rw [hv]
    simp only [ne_eq, not_true_eq_false, if_false] at he ⊢
    by_cases hn : n = 0
    · subst hn
      simp only [if_true, List.map_cons, List.map_nil, shT]
      congr 3
      omega
    · rw [if_neg hn] at he ⊢
      rw [if_neg hn]
      have hne : l.drop (gapN rem l) ≠ [] := fun h => by have := (hF.1 h).2; omega
      have hlt : ((l.drop (gapN rem l)).drop n).length < m := by
        have : 0 < (l.drop (gapN rem l)).length := List.length_pos_iff.2 hne
        simp only [List.length_drop] at this ⊢
        omega
      have he2 : (lexN false ((l.drop (gapN rem l)).drop n) (p + gapN rem l + n)).2.1 = 0 := by
        unfold comb at he
        by_cases h3 : (lexN false ((l.drop (gapN rem l)).drop n) (p + gapN rem l + n)).2.1 = 0
        · exact h3
        · rw [if_pos h3] at he; exact absurd he h3
      have hi := ih false _ _ hlt he2
      have e : p + d + gapN rem l + n = p + gapN rem l + n + d := by omega
      rw [e, hi]
      unfold comb
      simp only [he2, ne_eq, not_true_eq_false, if_false, List.map_append, List.map_cons, List.map_nil, shT]
      congr 4
      omega

/-- What may stand between two texts. -/
structure MidG (m : List Nat) : Prop where
  len : 0 < m.length
  gap : ∀ rem b, gapN rem (m ++ b) = m.length + gapN false b
  head : ∃ c r, m = c :: r ∧ isL c = false ∧ isD c = false ∧ isW c = false ∧ (∀ a, [a, c] ∉ twos) ∧ (c == 48) = false ∧ c ∉ ones
theorem mid_line : MidG [10] := ⟨by decide, fun rem b => by cases rem <;> simp [gapN, isB] <;> omega, 10, [], rfl, rfl, rfl, rfl, by simp [twos], rfl, by decide⟩
theorem mid_remark : MidG [32, 35, 32, 120, 32, 61, 32, 10] := ⟨by decide, fun rem b => by cases rem <;> simp [gapN, isB] <;> omega, 32, _, rfl, rfl, rfl, rfl, by simp [twos], rfl, by decide⟩

theorem lex_gone {u b : List Nat} {p : Nat} {rem : Bool} (h : gapN rem (u ++ b) = u.length + gapN false b) : lexN rem (u ++ b) p = lexN false b (p + u.length) := by
  have hd : (u ++ b).drop (gapN rem (u ++ b)) = b.drop (gapN false b) := by
    rw [h, List.drop_append]
    have h2 : u.drop (u.length + gapN false b) = [] := List.drop_of_length_le (by omega)
    rw [h2, List.nil_append]
    congr 1
    omega
  rw [lex_unfold rem (u ++ b) p _ rfl, lex_unfold false b (p + u.length) _ rfl, hd, h]
  have e : p + (u.length + gapN false b) = p + u.length + gapN false b := by omega
  rw [e]

theorem lex_join {mid : List Nat} (hm : MidG mid) (b : List Nat) : ∀ (m : Nat) (x : List Nat) (p : Nat), x.length < m → (lexN false x p).2.1 = 0 → lexN false (x ++ (mid ++ b)) p = comb (lexN false x p).1.dropLast (lexN false b (p + x.length + mid.length)) := by
  intro m
  induction m with
  | zero => intro x p h; omega
  | succ m ih =>
    intro x p hlt he
    obtain ⟨⟨k, n, e⟩, ha⟩ : ∃ a, firstN (x.drop (gapN false x)) = a := ⟨_, rfl⟩
    have hu := lex_unfold false x p _ ha
    have hE : e = 0 := by
      rw [hu] at he
      by_cases h : e = 0
      · exact h
      · simp [h] at he
    subst hE
    have hF := firstN_end ha
    have hgl := gapN_le false x
    by_cases hg : gapN false x = x.length
    · have hnil : x.drop (gapN false x) = [] := by rw [hg]; exact List.drop_length
      have hk := hF.1 hnil
      have hov := gap_over (x := x) (mid ++ b) (mid.length + gapN false b) (fun rem => hm.gap rem b) false hg
      have h2 : gapN false ((x ++ mid) ++ b) = (x ++ mid).length + gapN false b := by rw [List.append_assoc, hov, List.length_append]; omega
      have h3 := lex_gone (p := p) h2
      rw [List.append_assoc] at h3
      rw [h3, hu]
      simp only [hk.2, ne_eq, not_true_eq_false, if_false, if_true, List.dropLast_singleton]
      rw [comb_lex, List.length_append, Nat.add_assoc]
    · have hglt : gapN false x < x.length := by omega
      have hne : x.drop (gapN false x) ≠ [] := by intro h; rw [List.drop_eq_nil_iff] at h; omega
      have hn := (hF.2 hne).2
      have hfl := firstN_le (x.drop (gapN false x))
      rw [ha, List.length_drop] at hfl
      simp only at hfl
      obtain ⟨c, r, hcr, q1, q2, q3, q4, q5, q6⟩ := hm.head
      have hd1 : (x ++ (mid ++ b)).drop (gapN false x) = x.drop (gapN false x) ++ (mid ++ b) := List.drop_append_of_le_length hgl
      have hfa : firstN ((x ++ (mid ++ b)).drop (gapN false (x ++ (mid ++ b)))) = (k, n, 0) := by
        rw [gap_app _ hglt, hd1, hcr, List.cons_append, first_app _ _ _ hne q1 q2 q3 q4 q5 q6, ha]
      have hu2 := lex_unfold false (x ++ (mid ++ b)) p _ hfa
      rw [gap_app _ hglt, hd1] at hu2
      have ht : (x.drop (gapN false x) ++ (mid ++ b)).take n = (x.drop (gapN false x)).take n := List.take_append_of_le_length (by rw [List.length_drop]; exact hfl)
      have hdr : (x.drop (gapN false x) ++ (mid ++ b)).drop n = (x.drop (gapN false x)).drop n ++ (mid ++ b) := List.drop_append_of_le_length (by rw [List.length_drop]; exact hfl)
      rw [ht, hdr] at hu2
      simp only [ne_eq, not_true_eq_false, if_false] at hu2 hu
      rw [if_neg (by omega)] at hu2 hu
      have he2 : (lexN false ((x.drop (gapN false x)).drop n) (p + gapN false x + n)).2.1 = 0 := by
        rw [hu] at he
        unfold comb at he
        by_cases h3 : (lexN false ((x.drop (gapN false x)).drop n) (p + gapN false x + n)).2.1 = 0
        · exact h3
        · rw [if_pos h3] at he; exact absurd he h3
      have hi := ih _ (p + gapN false x + n) (by simp only [List.length_drop]; omega) he2
      have hnn := lex_ne he2
      rw [hu2, hi, hu, comb_comb]
      have e1 : p + gapN false x + n + ((x.drop (gapN false x)).drop n).length + mid.length = p + x.length + mid.length := by simp only [List.length_drop]; omega
      rw [e1]
      congr 1
      unfold comb
      simp only [he2, ne_eq, not_true_eq_false, if_false]
      rw [List.dropLast_append_of_ne_nil hnn]

/-- The tokens of both. -/
theorem lex_both {a mid b : List Nat} (hm : MidG mid) (hl : a.length + mid.length + b.length ≤ 8192) (ha : (lexS a).2.1 = 0) (hb : (lexS b).2.1 = 0) : lexS (a ++ mid ++ b) = ((lexS a).1.dropLast ++ (lexS b).1.map (shT (a.length + mid.length)), 0, 0) := by
  have s1 : lexS a = lexN false a 0 := by unfold lexS; rw [if_neg (by omega)]
  have s2 : lexS b = lexN false b 0 := by unfold lexS; rw [if_neg (by omega)]
  have s3 : lexS (a ++ mid ++ b) = lexN false (a ++ (mid ++ b)) 0 := by unfold lexS; rw [if_neg (by simp only [List.length_append]; omega), List.append_assoc]
  rw [s1] at ha ⊢
  rw [s2] at hb ⊢
  rw [s3, lex_join hm b (a.length + 1) a 0 (by omega) ha]
  have h := lex_shift (a.length + mid.length) (b.length + 1) false b 0 (by omega) hb
  rw [show 0 + a.length + mid.length = 0 + (a.length + mid.length) by omega, h]
  rfl

end Go.Proofs.YtjofhaakkleecaaDoor
