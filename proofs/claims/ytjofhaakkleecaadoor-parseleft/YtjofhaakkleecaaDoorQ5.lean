/-
  Plain mathematics of the parser: what is read goes on, within the tokens; nodes are no more than tokens.
-/
import Derived.Test.YtjofhaakkleecaaDoorQ4b
namespace Go.Proofs.YtjofhaakkleecaaDoor
open Go.RowKit Lx
set_option linter.unusedSimpArgs false
set_option linter.unusedVariables false
set_option maxRecDepth 100000

def Fine (T : List Tk) (i : Nat) (ns : List Nd) : R (List Nd) → Prop
  | .ok ns' j => i < j ∧ j < T.length ∧ ns'.length + i ≤ ns.length + j
  | .bad _ j => j < T.length
def Fine0 (T : List Tk) (i : Nat) (ns : List Nd) : R (List Nd) → Prop
  | .ok ns' j => i ≤ j ∧ j < T.length ∧ ns'.length + i ≤ ns.length + j
  | .bad _ j => j < T.length
def FineJ (T : List Tk) (i : Nat) (ns : List Nd) : R (Bool × List Nd) → Prop
  | .ok b j => (b.1 = true → i < j) ∧ (b.1 = false → j = i ∧ b.2 = ns) ∧ i ≤ j ∧ j < T.length ∧ b.2.length + i ≤ ns.length + j
  | .bad _ j => j < T.length
def Good (T : List Tk) (p : Ps) : Prop := ∀ i ns, i < T.length → ns.length ≤ i → Fine T i ns (p i ns)

section
variable {T : List Tk}
theorem opr_text {t : List Nat} (h : (opr t).2 ≠ 0) : t ≠ [] := by
  intro e; subst e; exact h rfl
theorem joins_fine (ok : Tks.Ok T) {p : Ps} (hp : Good T p) {rank : Nat} (hr : rank ≠ 0) {i : Nat} {ns : List Nd} (hi : i < T.length) (hn : ns.length ≤ i) : FineJ T i ns (joinsR (tks T) rank p i ns) := by
  unfold joinsR
  split
  · exact ⟨fun h => by simp at h, fun _ => ⟨rfl, rfl⟩, Nat.le_refl _, hi, Nat.le_refl _⟩
  · rename_i h
    have h1 : (opr (tks T i).t).2 = rank := Decidable.of_not_not h
    have hm := ok.more hi (opr_text (by rw [h1]; exact hr))
    have hf := hp (i + 1) ns hm (by omega)
    cases hq : p (i + 1) ns with
    | ok ns' j =>
      rw [hq] at hf
      obtain ⟨f1, f2, f3⟩ := hf
      refine ⟨fun _ => by show i < j; omega, fun h => by simp at h, by show i ≤ j; omega, f2, ?_⟩
      simp
      omega
    | bad x j => rw [hq] at hf; exact hf
theorem more_fine (ok : Tks.Ok T) {p : Ps} (hp : Good T p) {rank : Nat} (hr : rank ≠ 0) : ∀ (m : Nat) {i : Nat} {ns : List Nd}, i < T.length → ns.length ≤ i → Fine0 T i ns (moreR (tks T) rank p m i ns)
  | 0, i, ns, hi, hn => ⟨Nat.le_refl _, hi, Nat.le_refl _⟩
  | m + 1, i, ns, hi, hn => by
    have hj := joins_fine ok hp hr hi hn
    unfold moreR
    cases hq : joinsR (tks T) rank p i ns with
    | bad x j => rw [hq] at hj; exact hj
    | ok b j =>
      rw [hq] at hj
      obtain ⟨f1, f2, f3, f4, f5⟩ := hj
      obtain ⟨b, ns'⟩ := b
      simp only [R.bind] at *
      cases b
      · exact ⟨f3, f4, f5⟩
      · have h2 := more_fine ok hp hr m f4 (by omega : ns'.length ≤ j)
        simp only [if_true]
        cases hq2 : moreR (tks T) rank p m j ns' with
        | bad x k => rw [hq2] at h2; exact h2
        | ok ns2 k =>
          rw [hq2] at h2
          obtain ⟨g1, g2, g3⟩ := h2
          exact ⟨by omega, g2, by omega⟩
theorem chain_good (ok : Tks.Ok T) {p : Ps} (hp : Good T p) {rank : Nat} (hr : rank ≠ 0) (F : Nat) : Good T (chainR (tks T) F rank p) := by
  intro i ns hi hn
  have h1 := hp i ns hi hn
  unfold chainR
  cases hq : p i ns with
  | bad x j => rw [hq] at h1; exact h1
  | ok ns' j =>
    rw [hq] at h1
    obtain ⟨f1, f2, f3⟩ := h1
    have h2 := more_fine ok hp hr F f2 (by omega : ns'.length ≤ j)
    simp only [R.bind]
    cases hq2 : moreR (tks T) rank p F j ns' with
    | bad x k => rw [hq2] at h2; exact h2
    | ok ns2 k =>
      rw [hq2] at h2
      obtain ⟨g1, g2, g3⟩ := h2
      exact ⟨by omega, g2, by omega⟩
theorem pre_good (ok : Tks.Ok T) {p : Ps} (hp : Good T p) {t : List Nat} (ht : t ≠ []) (k d : Nat) : Good T (preR (tks T) t k d p) := by
  intro i ns hi hn
  unfold preR openR
  split
  · rename_i h
    split
    · exact hi
    · have hm := ok.more hi (by rw [h]; exact ht)
      have hf := hp (i + 1) ns hm (by omega)
      dsimp only
      cases hq : p (i + 1) ns with
      | bad x j => rw [hq] at hf; exact hf
      | ok ns' j =>
        rw [hq] at hf
        obtain ⟨f1, f2, f3⟩ := hf
        show i < j ∧ j < T.length ∧ _
        refine ⟨by omega, f2, ?_⟩
        simp
        omega
  · exact hi
theorem brack_good (ok : Tks.Ok T) {p : Ps} (hp : Good T p) {t c : List Nat} (ht : t ≠ []) (hc : c ≠ []) (d : Nat) : Good T (brackR (tks T) t c d p) := by
  intro i ns hi hn
  unfold brackR openR
  split
  · rename_i h
    split
    · exact hi
    · have hm := ok.more hi (by rw [h]; exact ht)
      have hf := hp (i + 1) ns hm (by omega)
      dsimp only
      cases hq : p (i + 1) ns with
      | bad x j => rw [hq] at hf; exact hf
      | ok ns' j =>
        rw [hq] at hf
        obtain ⟨f1, f2, f3⟩ := hf
        simp only [R.bind, takeR]
        split
        · rename_i h2
          have hm2 := ok.more f2 (by rw [h2]; exact hc)
          exact ⟨by omega, hm2, by omega⟩
        · exact f2
  · exact hi
theorem var_good (ok : Tks.Ok T) : Good T (varR (tks T)) := by
  intro i ns hi hn
  unfold varR
  split
  · rename_i h
    have hm := ok.more hi (by rw [tks_get hi] at h ⊢; exact ok.name i hi (.inl h))
    exact ⟨by omega, hm, by simp; omega⟩
  · exact hi
theorem un_good (ok : Tks.Ok T) (F : Nat) : ∀ n d, Good T (unR (tks T) F n d)
  | 0, d => fun i ns hi hn => hi
  | n + 1, d => by
    intro i ns hi hn
    unfold unR
    split
    · exact pre_good ok (un_good ok F n (d + 1)) (by simp) 3 d i ns hi hn
    · split
      · exact brack_good ok (chain_good ok (chain_good ok (un_good ok F n (d + 1)) (by decide) F) (by decide) F) (by simp) (by simp) d i ns hi hn
      · split
        · rename_i h
          have hm := ok.more hi (by rw [tks_get hi] at h ⊢; exact ok.name i hi (.inr h))
          exact ⟨by omega, hm, by simp; omega⟩
        · exact var_good ok i ns hi hn
theorem sum_good (ok : Tks.Ok T) (F n d : Nat) : Good T (sumR (tks T) F n d) := chain_good ok (chain_good ok (un_good ok F n d) (by decide) F) (by decide) F
theorem order_good (ok : Tks.Ok T) (F d : Nat) : Good T (orderR (tks T) F d) := by
  intro i ns hi hn
  have h1 := sum_good ok F F d i ns hi hn
  unfold orderR
  cases hq : sumR (tks T) F F d i ns with
  | bad x j => rw [hq] at h1; exact h1
  | ok ns' j =>
    rw [hq] at h1
    obtain ⟨f1, f2, f3⟩ := h1
    have h2 := joins_fine ok (sum_good ok F F d) (by decide : (3 : Nat) ≠ 0) f2 (by omega : ns'.length ≤ j)
    simp only [R.bind]
    cases hq2 : joinsR (tks T) 3 (sumR (tks T) F F d) j ns' with
    | bad x k => rw [hq2] at h2; exact h2
    | ok b k =>
      rw [hq2] at h2
      obtain ⟨g1, g2, g3, g4, g5⟩ := h2
      simp only
      split
      · exact ⟨by omega, g4, by omega⟩
      · exact g4
theorem lit_good (ok : Tks.Ok T) (F : Nat) : ∀ n d, Good T (litR (tks T) F n d)
  | 0, d => fun i ns hi hn => hi
  | n + 1, d => by
    intro i ns hi hn
    have one : ∀ k, (tks T i).t ≠ [] → Fine T i ns (.ok (ns ++ [⟨k, 0, [], -1, -1⟩]) (i + 1)) := fun k h => ⟨by omega, ok.more hi h, by simp; omega⟩
    unfold litR
    split
    · exact pre_good ok (lit_good ok F n (d + 1)) (by simp) 18 d i ns hi hn
    · split
      · exact brack_good ok (chain_good ok (chain_good ok (lit_good ok F n (d + 1)) (by decide) F) (by decide) F) (by simp) (by simp) d i ns hi hn
      · split
        · rename_i h; exact one 9 (by rw [h]; simp)
        · split
          · rename_i h; exact one 10 (by rw [h]; simp)
          · split
            · rename_i h; exact one 11 (by rw [h]; simp)
            · exact order_good ok F d i ns hi hn
theorem disj_good (ok : Tks.Ok T) (F n d : Nat) : Good T (disjR (tks T) F n d) := chain_good ok (chain_good ok (lit_good ok F n d) (by decide) F) (by decide) F
end

/-- What is read of the tree, and what Go's call of it does: by so many tokens left at most. -/
def TC (f : FuncId) (T : List Tk) (d n : Nat) (p : Ps) : Prop :=
  ∀ (w : World) (B gT gR gt cap i : Nat) (ns : List Nd), TS w B gT gR gt cap T i d ns → i < T.length → ns.length ≤ i → T.length ≤ i + n →
    Calls Tryd.prog f #[.pointer (some ⟨gT, 0, none⟩)] w (TOut w B gT gR gt cap T d (p i ns))
def JOut (w : World) (B gT gR gt cap : Nat) (T : List Tk) (d : Nat) (res : R (Bool × List Nd)) (e : Ending) (w' : World) : Prop :=
  match res with
  | .ok b j => e = .returned (.bool b.1) ∧ TS w' B gT gR gt cap T j d b.2 ∧ Kx B gR w w'
  | .bad x j => Gone T x j e ∧ Kx B gR w w'

end Go.Proofs.YtjofhaakkleecaaDoor
