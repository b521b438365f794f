/-
  Plain mathematics of tokens: what the document says of a text's tokens.
-/
import Derived.WalkKit
namespace Go.Proofs.YtjofhaakkleecaaDoor.Lx
set_option linter.unusedVariables false
set_option maxRecDepth 100000

def isL (c : Nat) : Bool := decide (97 ≤ c) && decide (c ≤ 122)
def isD (c : Nat) : Bool := decide (48 ≤ c) && decide (c ≤ 57)
def isW (c : Nat) : Bool := isL c || isD c || c == 95
def isB (c : Nat) : Bool := c == 32 || c == 9 || c == 10 || c == 13

/-- How many bytes stand ahead of the first token; rem: within a remark. -/
def gapN : Bool → List Nat → Nat
  | _, [] => 0
  | rem, c :: r => if rem = true ∧ c ≠ 10 then gapN true r + 1 else if isB c = true then gapN false r + 1 else if c = 35 then gapN true r + 1 else 0

/-- How many bytes at the beginning are of a kind. -/
def spanN (p : Nat → Bool) : List Nat → Nat
  | [] => 0
  | c :: r => if p c = true then spanN p r + 1 else 0

def keys : List (List Nat) := [[112, 114, 111, 99], [118, 97, 114], [104, 97, 118, 111, 99], [97, 115, 115, 117, 109, 101], [97, 115, 115, 101, 114, 116], [105, 102], [101, 108, 115, 101], [119, 104, 105, 108, 101], [101, 105, 116, 104, 101, 114], [111, 114], [97, 110, 100], [110, 111, 116], [116, 114, 117, 101], [102, 97, 108, 115, 101], [115, 107, 105, 112]]
def isKey (l : List Nat) : Bool := decide (l ∈ keys)
def twos : List (List Nat) := [[61, 61], [33, 61], [60, 61], [62, 61], [45, 62]]
def ones : List Nat := [40, 41, 123, 125, 91, 93, 44, 59, 61, 60, 62, 43, 45, 42, 47, 37]

/-- Of a first token: its kind, how many bytes it has, the error. -/
def wordN (l : List Nat) : Nat × Nat × Nat :=
  if isKey (l.take (spanN isW l)) = true then (3, spanN isW l, 0) else if 16 < spanN isW l then (0, 0, 2) else (1, spanN isW l, 0)
def headIs (p : Nat → Bool) : List Nat → Bool
  | [] => false
  | c :: _ => p c
def numberN (l : List Nat) : Nat × Nat × Nat :=
  if 9 < spanN isD l then (0, 0, 2) else if (1 < spanN isD l ∧ headIs (· == 48) l = true) ∨ headIs isW (l.drop (spanN isD l)) = true then (0, 0, 3) else (2, spanN isD l, 0)
def signN (l : List Nat) : Nat × Nat × Nat :=
  if l.take 2 ∈ twos then (4, 2, 0) else if headIs (fun c => decide (c ∈ ones)) l = true then (4, 1, 0) else (0, 0, 3)
def firstN (l : List Nat) : Nat × Nat × Nat :=
  if l = [] then (0, 0, 0) else if headIs isL l = true then wordN l else if headIs isD l = true then numberN l else signN l

theorem firstN_nil : firstN [] = (0, 0, 0) := rfl

/-- A token: its kind, its text, its place. -/
structure Tk where
  k : Nat
  t : List Nat
  p : Nat

/-- The tokens of a text that stands at p, or the error and its place, by so many rounds at most. -/
def lexF : Nat → Bool → List Nat → Nat → List Tk × Nat × Nat
  | 0, _, _, p => ([], 0, p)
  | m + 1, rem, l, p =>
    if (firstN (l.drop (gapN rem l))).2.2 ≠ 0 then ([], (firstN (l.drop (gapN rem l))).2.2, p + gapN rem l)
    else if (firstN (l.drop (gapN rem l))).2.1 = 0 then ([⟨(firstN (l.drop (gapN rem l))).1, [], p + gapN rem l⟩], 0, 0)
    else
      if (lexF m false ((l.drop (gapN rem l)).drop (firstN (l.drop (gapN rem l))).2.1) (p + gapN rem l + (firstN (l.drop (gapN rem l))).2.1)).2.1 ≠ 0 then ([], (lexF m false ((l.drop (gapN rem l)).drop (firstN (l.drop (gapN rem l))).2.1) (p + gapN rem l + (firstN (l.drop (gapN rem l))).2.1)).2)
      else (⟨(firstN (l.drop (gapN rem l))).1, (l.drop (gapN rem l)).take (firstN (l.drop (gapN rem l))).2.1, p + gapN rem l⟩ :: (lexF m false ((l.drop (gapN rem l)).drop (firstN (l.drop (gapN rem l))).2.1) (p + gapN rem l + (firstN (l.drop (gapN rem l))).2.1)).1, 0, 0)
theorem round_less {rem : Bool} {l : List Nat} (h : ¬ (firstN (l.drop (gapN rem l))).2.1 = 0) : ((l.drop (gapN rem l)).drop (firstN (l.drop (gapN rem l))).2.1).length < l.length := by
  have hne : l.drop (gapN rem l) ≠ [] := by
    intro e
    rw [e] at h
    exact h rfl
  have : 0 < (l.drop (gapN rem l)).length := List.length_pos_iff.2 hne
  simp only [List.length_drop] at this ⊢
  omega
theorem lexF_more : ∀ (m n : Nat) (rem : Bool) (l : List Nat) (p : Nat), l.length < m → l.length < n → lexF m rem l p = lexF n rem l p := by
  intro m
  induction m with
  | zero => intro n rem l p h; omega
  | succ m ih =>
    intro n rem l p h1 h2
    match n, h2 with
    | n + 1, h2 =>
      unfold lexF
      by_cases hx : (firstN (l.drop (gapN rem l))).2.2 ≠ 0
      · rw [if_pos hx, if_pos hx]
      · rw [if_neg hx, if_neg hx]
        by_cases hn : (firstN (l.drop (gapN rem l))).2.1 = 0
        · rw [if_pos hn, if_pos hn]
        · rw [if_neg hn, if_neg hn]
          have hl := round_less hn
          rw [ih n false _ _ (by omega) (by omega)]
/-- .. by as many as it takes. -/
def lexN (rem : Bool) (l : List Nat) (p : Nat) : List Tk × Nat × Nat := lexF (l.length + 1) rem l p

/-- What stands ahead, and what follows. -/
def comb (out : List Tk) (r : List Tk × Nat × Nat) : List Tk × Nat × Nat := if r.2.1 ≠ 0 then ([], r.2) else (out ++ r.1, 0, 0)

theorem comb_comb (a b : List Tk) (r : List Tk × Nat × Nat) : comb a (comb b r) = comb (a ++ b) r := by
  unfold comb
  by_cases h : r.2.1 = 0 <;> simp [h]
theorem comb_nil (r : List Tk × Nat × Nat) (h : r.2.1 ≠ 0 → r.1 = []) (h2 : r.2.1 = 0 → r.2.2 = 0) : comb [] r = r := by
  unfold comb
  obtain ⟨a, b, c⟩ := r
  by_cases h' : b = 0
  · simp at h2; simp [h', h2 h']
  · simp at h; simp [h', h h']

/-- A round: behind the gap the text l; what its first token is. -/
theorem lex_unfold (rem : Bool) (l : List Nat) (p : Nat) (a : Nat × Nat × Nat) (ha : firstN (l.drop (gapN rem l)) = a) :
    lexN rem l p = if a.2.2 ≠ 0 then ([], a.2.2, p + gapN rem l) else if a.2.1 = 0 then ([⟨a.1, [], p + gapN rem l⟩], 0, 0) else comb [⟨a.1, (l.drop (gapN rem l)).take a.2.1, p + gapN rem l⟩] (lexN false ((l.drop (gapN rem l)).drop a.2.1) (p + gapN rem l + a.2.1)) := by
  subst ha
  show lexF (l.length + 1) rem l p = _
  unfold lexF
  by_cases h1 : (firstN (l.drop (gapN rem l))).2.2 ≠ 0
  · rw [if_pos h1, if_pos h1]
  · rw [if_neg h1, if_neg h1]
    by_cases h2 : (firstN (l.drop (gapN rem l))).2.1 = 0
    · rw [if_pos h2, if_pos h2]
    · rw [if_neg h2, if_neg h2]
      have hl := round_less h2
      rw [lexF_more l.length (((l.drop (gapN rem l)).drop (firstN (l.drop (gapN rem l))).2.1).length + 1) false _ _ hl (by omega)]
      rfl

theorem comb_shape (out : List Tk) (r : List Tk × Nat × Nat) : ((comb out r).2.1 ≠ 0 → (comb out r).1 = []) ∧ ((comb out r).2.1 = 0 → (comb out r).2.2 = 0) := by
  unfold comb
  by_cases h : r.2.1 = 0 <;> simp [h]
theorem lex_shape (rem : Bool) (l : List Nat) (p : Nat) : ((lexN rem l p).2.1 ≠ 0 → (lexN rem l p).1 = []) ∧ ((lexN rem l p).2.1 = 0 → (lexN rem l p).2.2 = 0) := by
  rw [lex_unfold rem l p _ rfl]
  split
  · rename_i h; exact ⟨fun _ => rfl, fun h2 => absurd h2 h⟩
  · split
    · exact ⟨fun h2 => absurd rfl h2, fun _ => rfl⟩
    · exact comb_shape _ _
theorem comb_lex (rem : Bool) (l : List Nat) (p : Nat) : comb [] (lexN rem l p) = lexN rem l p := comb_nil _ (lex_shape rem l p).1 (lex_shape rem l p).2

/-- One byte of a gap. -/
theorem lex_byte {rem rem' : Bool} {c : Nat} {r : List Nat} {p : Nat} (h : gapN rem (c :: r) = gapN rem' r + 1) : lexN rem (c :: r) p = lexN rem' r (p + 1) := by
  have hd : (c :: r).drop (gapN rem (c :: r)) = r.drop (gapN rem' r) := by rw [h]; rfl
  rw [lex_unfold rem (c :: r) p (firstN (r.drop (gapN rem' r))) (by rw [hd]), lex_unfold rem' r (p + 1) (firstN (r.drop (gapN rem' r))) rfl, hd, h]
  have e : p + (gapN rem' r + 1) = p + 1 + gapN rem' r := by omega
  rw [e]
theorem lex_blank {c : Nat} {r : List Nat} {p : Nat} (h : isB c = true) : lexN false (c :: r) p = lexN false r (p + 1) := lex_byte (by simp [gapN, h])
theorem lex_hash {r : List Nat} {p : Nat} : lexN false (35 :: r) p = lexN true r (p + 1) := lex_byte (by simp [gapN, isB])
theorem lex_hash' {r : List Nat} {p : Nat} : lexN false (35 :: r) p = lexN true (35 :: r) p := by rw [lex_hash, lex_byte (rem := true) (rem' := true)]; simp [gapN]
theorem lex_rem {c : Nat} {r : List Nat} {p : Nat} (h : c ≠ 10) : lexN true (c :: r) p = lexN true r (p + 1) := lex_byte (by simp [gapN, h])
theorem lex_same {l : List Nat} {p : Nat} (h : gapN true l = gapN false l) : lexN true l p = lexN false l p := by
  rw [lex_unfold true l p (firstN (l.drop (gapN false l))) (by rw [h]), lex_unfold false l p (firstN (l.drop (gapN false l))) rfl, h]
theorem lex_rem_line {r : List Nat} {p : Nat} : lexN true (10 :: r) p = lexN false (10 :: r) p := lex_same (by simp [gapN, isB])
theorem lex_rem_nil {p : Nat} : lexN true [] p = lexN false [] p := lex_same rfl
theorem lex_nil (p : Nat) : lexN false [] p = ([⟨0, [], p⟩], 0, 0) := by
  rw [lex_unfold false [] p (0, 0, 0) rfl]; simp [gapN]
/-- A token that stands there. -/
theorem lex_tok {c : Nat} {r : List Nat} {p : Nat} (h1 : isB c = false) (h2 : c ≠ 35) (a : Nat × Nat × Nat) (ha : firstN (c :: r) = a) :
    lexN false (c :: r) p = if a.2.2 ≠ 0 then ([], a.2.2, p) else if a.2.1 = 0 then ([⟨a.1, [], p⟩], 0, 0) else comb [⟨a.1, (c :: r).take a.2.1, p⟩] (lexN false ((c :: r).drop a.2.1) (p + a.2.1)) := by
  have hg : gapN false (c :: r) = 0 := by simp [gapN, h1, h2]
  have := lex_unfold false (c :: r) p a (by rw [hg]; exact ha)
  rw [hg] at this
  simpa using this

theorem spanN_le (p : Nat → Bool) (l : List Nat) : spanN p l ≤ l.length := by
  induction l with
  | nil => simp [spanN]
  | cons c r ih => unfold spanN; split <;> simp; omega
theorem gapN_le (rem : Bool) (l : List Nat) : gapN rem l ≤ l.length := by
  induction l generalizing rem with
  | nil => cases rem <;> simp [gapN]
  | cons c r ih =>
    unfold gapN
    have h1 := ih true
    have h2 := ih false
    split
    · simp; omega
    · split
      · simp; omega
      · split
        · simp; omega
        · simp
theorem firstN_le (l : List Nat) : (firstN l).2.1 ≤ l.length := by
  unfold firstN wordN numberN signN
  have h1 := spanN_le isW l
  have h2 := spanN_le isD l
  by_cases h0 : l = []
  · simp [h0]
  · have h3 : 0 < l.length := List.length_pos_iff.2 h0
    rw [if_neg h0]
    split
    · split
      · exact h1
      · split
        · simp
        · exact h1
    · split
      · split
        · simp
        · split
          · simp
          · exact h2
      · split
        · rename_i h
          show 2 ≤ l.length
          match l, h with
          | [], h => simp [twos] at h
          | [a], h => simp [twos] at h
          | a :: b :: r, _ => simp
        · split
          · exact h3
          · simp
/-- A line's rest is gone by. -/
theorem gap_true (l : List Nat) : gapN true l = spanN (fun c => c != 10) l + gapN false (l.drop (spanN (fun c => c != 10) l)) := by
  induction l with
  | nil => simp [gapN, spanN]
  | cons c r ih =>
    by_cases h : c = 10
    · subst h; simp [gapN, spanN, isB]
    · simp [gapN, spanN, h, ih]; omega
theorem gap_hash (r : List Nat) : gapN false (35 :: r) = spanN (fun c => c != 10) (35 :: r) + gapN false ((35 :: r).drop (spanN (fun c => c != 10) (35 :: r))) := by
  rw [← gap_true]; simp [gapN, isB]

end Go.Proofs.YtjofhaakkleecaaDoor.Lx
