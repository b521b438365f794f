/-
  Plain mathematics of lists; rows of one's own that grow: where they lie.
-/
import Derived.Test.YtjofhaakkleecaaDoorQ10
namespace Go.Proofs.YtjofhaakkleecaaDoor
open Go.RowKit Lx
set_option linter.unusedSimpArgs false
set_option linter.unusedVariables false
set_option maxRecDepth 100000

/-- What is read goes on, within the tokens. -/
def FineR {α : Type} (T : List Tk) (i : Nat) : R α → Prop
  | .ok _ j => i < j ∧ j < T.length
  | .bad _ j => j < T.length
def FineR0 {α : Type} (T : List Tk) (i : Nat) : R α → Prop
  | .ok _ j => i ≤ j ∧ j < T.length
  | .bad _ j => j < T.length
section
variable {T : List Tk}
theorem expr_fine (ok : Tks.Ok T) (F d : Nat) {i : Nat} (hi : i < T.length) : FineR T i (exprR (tks T) F d i) := by
  have h := sum_good ok F F d i [] hi (Nat.zero_le _)
  unfold exprR
  cases hq : sumR (tks T) F F d i [] with
  | ok ns j => rw [hq] at h; exact ⟨h.1, h.2.1⟩
  | bad x j => rw [hq] at h; exact h
theorem cond_fine (ok : Tks.Ok T) (F d : Nat) {i : Nat} (hi : i < T.length) : FineR T i (condR (tks T) F d i) := by
  have h := disj_good ok F F d i [] hi (Nat.zero_le _)
  unfold condR
  cases hq : disjR (tks T) F F d i [] with
  | ok ns j => rw [hq] at h; exact ⟨h.1, h.2.1⟩
  | bad x j => rw [hq] at h; exact h
theorem name_fine (ok : Tks.Ok T) {i : Nat} (hi : i < T.length) : FineR T i (nameR (tks T) i) := by
  unfold nameR
  split
  · rename_i h
    exact ⟨Nat.lt_succ_self _, ok.more hi (by rw [tks_get hi] at h ⊢; exact ok.name i hi (.inl h))⟩
  · exact hi
theorem take_fine (ok : Tks.Ok T) {α : Type} {t : List Nat} (ht : t ≠ []) (a : α) {i : Nat} (hi : i < T.length) : FineR T i (takeR (tks T) t a i) := by
  unfold takeR
  split
  · rename_i h
    exact ⟨Nat.lt_succ_self _, ok.more hi (by rw [h]; exact ht)⟩
  · exact hi
/-- One after another. -/
theorem bind_fine {α β : Type} {i : Nat} {x : R α} {f : α → Nat → R β} (hx : FineR T i x) (hf : ∀ a j, i < j → j < T.length → FineR0 T j (f a j)) : FineR T i (x.bind f) := by
  cases x with
  | bad e j => exact hx
  | ok a j =>
    have h := hf a j hx.1 hx.2
    show FineR T i (f a j)
    cases hq : f a j with
    | bad e k => rw [hq] at h; exact h
    | ok b k => rw [hq] at h; exact ⟨Nat.lt_of_lt_of_le hx.1 h.1, h.2⟩
theorem fine_weak {α : Type} {i : Nat} {x : R α} (h : FineR T i x) : FineR0 T i x := by
  cases x with
  | ok a j => exact ⟨Nat.le_of_lt h.1, h.2⟩
  | bad e j => exact h
theorem bind_fine0 {α β : Type} {i : Nat} {x : R α} {f : α → Nat → R β} (hx : FineR0 T i x) (hf : ∀ a j, i ≤ j → j < T.length → FineR0 T j (f a j)) : FineR0 T i (x.bind f) := by
  cases x with
  | bad e j => exact hx
  | ok a j =>
    have h := hf a j hx.1 hx.2
    show FineR0 T i (f a j)
    cases hq : f a j with
    | bad e k => rw [hq] at h; exact h
    | ok b k => rw [hq] at h; exact ⟨Nat.le_trans hx.1 h.1, h.2⟩
theorem ok_fine0 {α : Type} {a : α} {i : Nat} (hi : i < T.length) : FineR0 T i (.ok a i) := ⟨Nat.le_refl _, hi⟩
theorem listMore_fine (ok : Tks.Ok T) {α : Type} {one : Nat → R α} (ho : ∀ i, i < T.length → FineR T i (one i)) : ∀ (m : Nat) (l : List α) {i : Nat}, i < T.length → FineR0 T i (listMore (tks T) one m l i)
  | 0, l, i, hi => ⟨Nat.le_refl _, hi⟩
  | m + 1, l, i, hi => by
    unfold listMore
    split
    · rename_i h
      have hm := ok.more hi (by rw [h]; simp)
      have h1 := ho (i + 1) hm
      cases hq : one (i + 1) with
      | bad e j => rw [hq] at h1; exact h1
      | ok a j =>
        rw [hq] at h1
        have h2 := listMore_fine ok ho m (l ++ [a]) h1.2
        show FineR0 T i (listMore (tks T) one m (l ++ [a]) j)
        cases hq2 : listMore (tks T) one m (l ++ [a]) j with
        | bad e k => rw [hq2] at h2; exact h2
        | ok b k => rw [hq2] at h2; have := h1.1; exact ⟨by have := h2.1; omega, h2.2⟩
    · exact ⟨Nat.le_refl _, hi⟩
theorem list_fine (ok : Tks.Ok T) (F : Nat) {α : Type} {one : Nat → R α} (ho : ∀ i, i < T.length → FineR T i (one i)) {i : Nat} (hi : i < T.length) : FineR T i (listR (tks T) F one i) := by
  unfold listR
  split
  · rename_i h
    have hm := ok.more hi (by rw [h]; simp)
    split
    · rename_i h2
      have hm2 := ok.more hm (by rw [h2]; simp)
      exact ⟨by omega, hm2⟩
    · have hb := bind_fine (f := fun a j => (listMore (tks T) one F [a] j).bind fun l k => takeR (tks T) [41] l k) (ho (i + 1) hm) (fun a j _ hj => bind_fine0 (listMore_fine ok ho F [a] hj) (fun l k _ hk => fine_weak (take_fine ok (by simp) l hk)))
      cases hq : (one (i + 1)).bind fun a j => (listMore (tks T) one F [a] j).bind fun l k => takeR (tks T) [41] l k with
      | bad e k => rw [hq] at hb; exact hb
      | ok b k => rw [hq] at hb; exact ⟨by have := hb.1; omega, hb.2⟩
  · exact hi
end

/-- One value is appended; where the row lies then. -/
theorem wpList_append_vl {ops : Array Oper} {rest : List Oper} {o : Oper} {ac : Act} {w : World} {Q : Exit → Act → World → Prop}
    (ST e : TypeId) (n bs : Nat) (z : Value) (hu : Tryd.prog.underlying ST = some (.slice e)) (hinfo : (Tryd.prog.info? e).map (fun i => (i.zero, i.size, i.bytes)) = some (some z, n, bs)) (hzc : z.cells.size = n) (hn : 0 < n) (hbs : bs ≤ 200)
    (hgd : o.guard = none) (s x : Operand) (hop : o.op = Op.call { callee := Callee.builtin Builtin.append, args := #[s, x], argTypes := #[ST, ST] })
    (base : Nat) (v : Value) (L : List (List Value)) (hs : ac.eval s = v) (hown : OwnV w base e n v L) (b c : Nat) (cs : List Value) (hx : ac.eval x = .slice (some ⟨b, 0, none⟩) 1 c) (hcs : cs.length = n) (hnews : CellsAt w b 0 cs) (h1 : ∀ u ∈ cs, u.oneCell' = true) (hk : L.length ≤ 1000000) (hbase : base ≤ w.heap.size)
    (hK : ∀ g m' c' w', OwnV w' base e n (.slice (some ⟨g, 0, none⟩) m' c') (L ++ [cs]) → w.grownBy w' v.ownBlock → (v.ownBlock = some g ∨ g = w.heap.size) → wpList Tryd.prog ops Q rest (ac.put o.dst (.slice (some ⟨g, 0, none⟩) m' c')) w') : wpList Tryd.prog ops Q (o :: rest) ac w := by
  obtain ⟨i0, hi, hz0, hz1, hz2⟩ := info_parts hinfo
  refine wpList_append_lies (P := Tryd.prog) w hgd s x ST hop base e i0 z n bs hu hi hz0 hz1 hz2 hzc hn v L.length L.flatten hs hown ⟨b, 0, none⟩ 1 c cs hx (by rw [hcs, Nat.one_mul]) (by
    intro j u hj
    have h2 := hnews j u hj
    rw [Nat.zero_add] at h2
    by_cases h0 : j = 0
    · subst h0; simpa [Addr.add] using h2
    · simpa [Addr.add, h0] using h2) h1 (by decide) (by unfold maxLen; omega) (by have : (L.length + 1) * bs ≤ 1000001 * 200 := Nat.mul_le_mul (by omega) hbs; omega) hbase w.heap.size rfl ?_
  intro g cap w' hO hg hl hlt
  refine hK g (L.length + 1) cap w' ?_ hg hl
  unfold OwnV
  rw [List.flatten_append, List.length_append]
  simpa using hO
/-- The data of a row's values, once one more has been appended. -/
theorem same_app {W w' : World} {B g : Nat} {v : Value} (hg : W.grownBy w' v.ownBlock) (hl : v.ownBlock = some g ∨ g = W.heap.size) : Same W w' (fun b => B ≤ b ∧ v.ownBlock ≠ some b) (fun b => B ≤ b ∧ g ≠ b) := by
  refine ⟨hg.size, fun b hb ⟨h1, h2⟩ => ⟨hg.block b hb (Ne.symm h2), h1, ?_⟩⟩
  rcases hl with hl | hl
  · intro e; exact h2 (by rw [hl, e])
  · omega
/-- .. once the reader has gone on. -/
theorem same_read {W w' : World} {B gR : Nat} {v : Value} (hg : W.grownBy w' (some gR)) (hR : gR < B) : Same W w' (fun b => B ≤ b ∧ v.ownBlock ≠ some b) (fun b => B ≤ b ∧ v.ownBlock ≠ some b) :=
  ⟨hg.size, fun b hb ⟨h1, h2⟩ => ⟨hg.block b hb (by simp; omega), h1, h2⟩⟩
theorem own_new (w : World) (base : Nat) (e : TypeId) (cs : List Value) (h : base ≤ w.heap.size) : OwnV (w.alloc (.cells cs.toArray e)) base e cs.length (.slice (some ⟨w.heap.size, 0, none⟩) 1 1) [cs] := by
  refine ⟨by simp, .inr ⟨w.heap.size, 1, cs.toArray, rfl, h, heap_alloc_new w _, Nat.le_refl _, by unfold maxLen; omega, by simp, ?_⟩⟩
  simp

end Go.Proofs.YtjofhaakkleecaaDoor
