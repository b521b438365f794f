/-
  Plain mathematics: what the tokens of a text are like.
-/
import Derived.Test.YtjofhaakkleecaaDoorQ22
namespace Go.Proofs.YtjofhaakkleecaaDoor
open Go.RowKit Lx
set_option linter.unusedSimpArgs false
set_option linter.unusedVariables false
set_option maxRecDepth 100000

theorem span_take (p : Nat → Bool) (l : List Nat) : ∀ c ∈ l.take (spanN p l), p c = true := by
  induction l with
  | nil => simp
  | cons a r ih =>
    intro c hc
    unfold spanN at hc
    split at hc
    · rename_i h
      rw [List.take_succ_cons] at hc
      rcases List.mem_cons.1 hc with rfl | hc
      · exact h
      · exact ih c hc
    · simp at hc
def TokOk (t : Tk) : Prop := t.k ≠ 0 ∧ t.k ≤ 4 ∧ t.t ≠ [] ∧ (t.k = 2 → t.t.length ≤ 9 ∧ ∀ c ∈ t.t, 48 ≤ c ∧ c ≤ 57) ∧ ∀ c ∈ t.t, c < 256
def OkT : List Tk → Prop
  | [] => False
  | [e] => e.k = 0 ∧ e.t = []
  | t :: r => TokOk t ∧ OkT r
theorem okT_cons {t : Tk} {r : List Tk} (h : TokOk t) (hr : OkT r) : OkT (t :: r) := by
  cases r with
  | nil => exact hr.elim
  | cons a b => exact ⟨h, hr⟩
theorem first_tok {l : List Nat} {k n : Nat} (h : firstN l = (k, n, 0)) (hl : l ≠ []) (hs : ∀ c ∈ l, c < 256) (p : Nat) : TokOk ⟨k, l.take n, p⟩ := by
  have he := (firstN_end h).2 hl
  have hle := firstN_le l
  rw [h] at hle
  have hle : n ≤ l.length := hle
  have hne : l.take n ≠ [] := by
    intro e
    have : (l.take n).length = 0 := by rw [e]; rfl
    rw [List.length_take] at this
    omega
  have hk : k ≤ 4 ∧ (k = 2 → n = spanN isD l ∧ n ≤ 9) := by
    unfold firstN at h
    rw [if_neg hl] at h
    split at h
    · unfold wordN at h
      split at h
      · simp at h; omega
      · split at h
        · simp at h
        · simp at h; omega
    · split at h
      · unfold numberN at h
        split at h
        · simp at h
        · split at h
          · simp at h
          · simp at h; omega
      · unfold signN at h
        split at h
        · simp at h; omega
        · split at h
          · simp at h; omega
          · simp at h
  refine ⟨he.1, hk.1, hne, fun h2 => ?_, fun c hc => hs c (List.mem_of_mem_take hc)⟩
  obtain ⟨h3, h4⟩ := hk.2 h2
  refine ⟨by simp; omega, fun c hc => ?_⟩
  rw [h3] at hc
  have := span_take isD l c hc
  simpa [isD] using this
theorem lexF_ok : ∀ (m : Nat) (rem : Bool) (l : List Nat) (p : Nat), (∀ c ∈ l, c < 256) → l.length < m → (lexF m rem l p).2.1 = 0 → OkT (lexF m rem l p).1 ∧ (lexF m rem l p).1.length ≤ l.length + 1
  | 0, rem, l, p, hs, hm, h => by omega
  | m + 1, rem, l, p, hs, hm, h => by
    unfold lexF at h ⊢
    by_cases hx : (firstN (l.drop (gapN rem l))).2.2 ≠ 0
    · rw [if_pos hx] at h
      exact absurd h hx
    · rw [if_neg hx] at h ⊢
      have hx0 : (firstN (l.drop (gapN rem l))).2.2 = 0 := Decidable.of_not_not hx
      have hf : firstN (l.drop (gapN rem l)) = ((firstN (l.drop (gapN rem l))).1, (firstN (l.drop (gapN rem l))).2.1, 0) := by rw [← hx0]
      by_cases hn : (firstN (l.drop (gapN rem l))).2.1 = 0
      · rw [if_pos hn]
        have hd : l.drop (gapN rem l) = [] := Classical.byContradiction fun hd => by have := ((firstN_end hf).2 hd).2; omega
        refine ⟨⟨?_, rfl⟩, by simp⟩
        rw [hd]; rfl
      · rw [if_neg hn] at h ⊢
        have hl := round_less hn
        have ih := lexF_ok m false ((l.drop (gapN rem l)).drop (firstN (l.drop (gapN rem l))).2.1) (p + gapN rem l + (firstN (l.drop (gapN rem l))).2.1) (fun c hc => hs c (List.mem_of_mem_drop (List.mem_of_mem_drop hc))) (by omega)
        by_cases h2 : (lexF m false ((l.drop (gapN rem l)).drop (firstN (l.drop (gapN rem l))).2.1) (p + gapN rem l + (firstN (l.drop (gapN rem l))).2.1)).2.1 ≠ 0
        · rw [if_pos h2] at h
          exact absurd h h2
        · rw [if_neg h2]
          obtain ⟨i1, i2⟩ := ih (Decidable.of_not_not h2)
          have hd : l.drop (gapN rem l) ≠ [] := fun e => hn (by rw [e]; rfl)
          refine ⟨okT_cons (first_tok hf hd (fun c hc => hs c (List.mem_of_mem_drop hc)) _) i1, ?_⟩
          simp only [List.length_cons]
          omega
theorem okT_ok : ∀ {T : List Tk}, OkT T → Tks.Ok T
  | [], h => h.elim
  | [e], h => by
    have one : ∀ j (hj : j < [e].length), [e][j] = e := fun j hj => by simp at hj; subst hj; rfl
    exact ⟨by simp, fun j hj _ => by simp at hj ⊢; omega, fun j hj hk => by rw [one j hj, h.1] at hk; omega, fun j hj _ => by rw [one j hj]; exact h, fun j hj _ => by simp at hj ⊢; omega, fun j hj hk => by rw [one j hj, h.1] at hk; omega, fun j hj c hc => by rw [one j hj, h.2] at hc; simp at hc, fun j hj => by rw [one j hj, h.1]; omega⟩
  | t :: a :: r, ⟨h, h2⟩ => by
    have ih := okT_ok h2
    obtain ⟨h0, h4, hn, hd, hs⟩ := h
    refine ⟨by simp, fun j hj e => ?_, fun j hj hk => ?_, fun j hj e => ?_, fun j hj e => ?_, fun j hj e => ?_, fun j hj => ?_, fun j hj => ?_⟩
    · cases j with
      | zero => exact absurd e hn
      | succ j => have := ih.last j (by simpa using hj) e; simp at this ⊢; omega
    · cases j with
      | zero => exact hn
      | succ j => exact ih.name j (by simpa using hj) hk
    · cases j with
      | zero => simp at e
      | succ j => exact ih.fin j (by simpa using hj) (by simp at e ⊢; omega)
    · cases j with
      | zero => exact absurd e h0
      | succ j => have := ih.zero j (by simpa using hj) e; simp at this ⊢; omega
    · cases j with
      | zero => exact hd e
      | succ j => exact ih.num j (by simpa using hj) e
    · cases j with
      | zero => exact hs
      | succ j => exact ih.small j (by simpa using hj)
    · cases j with
      | zero => exact h4
      | succ j => exact ih.kind j (by simpa using hj)
theorem lexS_ok {l : List Nat} (hs : ∀ c ∈ l, c < 256) (h : (lexS l).2.1 = 0) : Tks.Ok (lexS l).1 ∧ (lexS l).1.length ≤ 8200 ∧ OkT (lexS l).1 := by
  unfold lexS at h ⊢
  by_cases hb : 8192 < l.length
  · rw [if_pos hb] at h; simp at h
  · rw [if_neg hb] at h ⊢
    obtain ⟨h1, h2⟩ := lexF_ok (l.length + 1) false l 0 hs (by omega) h
    exact ⟨okT_ok h1, by show (lexF (l.length + 1) false l 0).1.length ≤ 8200; omega, h1⟩

/-- What the program of a text is, or the first error and its place. -/
def progS (l : List Nat) : List Pr × Nat × Nat :=
  if (lexS l).2.1 ≠ 0 then ([], (lexS l).2) else match progR (tks (lexS l).1) 8200 with | .ok L _ => (L, 0, 0) | .bad x j => ([], x, (tks (lexS l).1 j).p)
/-- What Prog tells. -/
def ProgOut (w : World) (a : List Pr × Nat × Nat) (e : Ending) (w' : World) : Prop :=
  ∃ v, e = .returned (.tuple #[v, .int .i64 (a.2.1 : Int), .int .i64 (a.2.2 : Int)]) ∧ PgV w' (fun b => w.heap.size ≤ b) a.1 v ∧ Below w.heap.size w w'
theorem pg_nil (w : World) (ok : Nat → Prop) : PgV w ok [] (.agg #[.slice none 0 0]) := ⟨none, 0, 0, rfl, [], ⟨rfl, Nat.le_refl _, by unfold maxLen; omega, .inl rfl⟩, trivial⟩

end Go.Proofs.YtjofhaakkleecaaDoor
