/-
  Plain mathematics of the parser: what it tells hangs on the tokens up to where it tells it alone.
  Plain mathematics of tokens: the beginning of a text up to a token's end.
  Plain mathematics: an error of the parser stays, whatever stands behind its token.
  Plain mathematics: the tokens' texts, blanks and remarks between, are the same tokens again.
-/
import Derived.Test.YtjofhaakkleecaaDoorQ0
import Derived.Test.YtjofhaakkleecaaDoorQJ
import Derived.Test.YtjofhaakkleecaaDoorQ24

namespace Go.Proofs.YtjofhaakkleecaaDoor.Lx
set_option linter.unusedVariables false
set_option maxRecDepth 100000

def R.at {α : Type} : R α → Nat
  | .ok _ i => i
  | .bad _ i => i

/-- Tokens of the same kinds and texts up to k; a name is no sign and no bracket. -/
structure Like (k : Nat) (tk tk' : Tks) : Prop where
  hk : ∀ i, i ≤ k → (tk' i).k = (tk i).k
  ht : ∀ i, i ≤ k → (tk' i).t = (tk i).t
  name : ∀ i, (tk i).k = 1 → (tk i).t ≠ [45] ∧ (tk i).t ≠ [40]

/-- One answer, from i on, and the other: it is the same, or it tells of what stands behind k. -/
def Ag {α : Type} (k i : Nat) (r r' : R α) : Prop := i ≤ r.at ∧ (r' = r ∨ k < r.at)

section
variable {α β : Type} {k i j : Nat}
theorem Ag.same {r : R α} (h : i ≤ r.at) : Ag k i r r := ⟨h, .inl rfl⟩
theorem Ag.weak {r r' : R α} (h : Ag k j r r') (hi : i ≤ j) : Ag k i r r' := ⟨Nat.le_trans hi h.1, h.2⟩
theorem Ag.over {r r' : R α} (h : i ≤ r.at) (hk : k < i) : Ag k i r r' := ⟨h, .inr (by omega)⟩
theorem Ag.bind {r r' : R α} {f f' : α → Nat → R β} (h : Ag k i r r') (hf : ∀ a j, i ≤ j → Ag k j (f a j) (f' a j)) : Ag k i (r.bind f) (r'.bind f') := by
  obtain ⟨h1, h2⟩ := h
  cases r with
  | bad e j =>
    refine ⟨h1, ?_⟩
    rcases h2 with rfl | h2
    · exact .inl rfl
    · exact .inr h2
  | ok a j =>
    have h1 : i ≤ j := h1
    obtain ⟨h3, h4⟩ := hf a j h1
    refine ⟨Nat.le_trans h1 h3, ?_⟩
    rcases h2 with rfl | h2
    · exact h4
    · have h2 : k < j := h2
      exact .inr (Nat.lt_of_lt_of_le h2 h3)
theorem Ag.ite {c c' : Prop} [Decidable c] [Decidable c'] {a a' b b' : R α} (hc : i ≤ k → (c' ↔ c)) (ha : c → Ag k i a a') (hb : ¬ c → Ag k i b b') : Ag k i (if c then a else b) (if c' then a' else b') := by
  by_cases hk : i ≤ k
  · by_cases h : c
    · rw [if_pos h, if_pos ((hc hk).2 h)]; exact ha h
    · rw [if_neg h, if_neg (fun q => h ((hc hk).1 q))]; exact hb h
  · by_cases h : c
    · rw [if_pos h]; exact Ag.over (ha h).1 (by omega)
    · rw [if_neg h]; exact Ag.over (hb h).1 (by omega)
theorem bind_at {r : R α} {f : α → Nat → R β} (hr : i ≤ r.at) (hf : ∀ a j, j ≤ (f a j).at) : i ≤ (r.bind f).at := by
  cases r with
  | ok a j => exact Nat.le_trans hr (hf a j)
  | bad e j => exact hr
end
section
variable {k : Nat} {tk tk' : Tks} (L : Like k tk tk')
include L
def AgP (k : Nat) (p p' : Ps) : Prop := ∀ i ns, Ag k i (p i ns) (p' i ns)
theorem Like.tx (i : Nat) (c : List Nat) : i ≤ k → ((tk' i).t = c ↔ (tk i).t = c) := fun h => by rw [L.ht i h]
theorem Like.kx (i c : Nat) : i ≤ k → ((tk' i).k = c ↔ (tk i).k = c) := fun h => by rw [L.hk i h]
theorem ag_joins {p p' : Ps} (hp : AgP k p p') (rank i : Nat) (ns : List Nd) : Ag k i (joinsR tk rank p i ns) (joinsR tk' rank p' i ns) := by
  unfold joinsR
  refine Ag.ite (fun h => by rw [L.ht i h]) (fun _ => Ag.same (Nat.le_refl _)) (fun _ => ?_)
  by_cases h : i ≤ k
  · rw [L.ht i h]
    exact ((hp (i + 1) ns).weak (Nat.le_succ i)).bind fun a j hj => Ag.same (Nat.le_refl _)
  · refine Ag.over ?_ (by omega)
    exact (((hp (i + 1) ns).weak (Nat.le_succ i)).bind (f' := fun ns' j => .ok (true, ns' ++ [⟨(opr (tk i).t).1, 0, [], lastI ns, lastI ns'⟩]) j) fun a j hj => Ag.same (Nat.le_refl _)).1
theorem ag_more {p p' : Ps} (hp : AgP k p p') (rank : Nat) : ∀ m, AgP k (moreR tk rank p m) (moreR tk' rank p' m)
  | 0 => fun i ns => Ag.same (Nat.le_refl _)
  | m + 1 => fun i ns => by
    unfold moreR
    refine (ag_joins L hp rank i ns).bind fun a j hj => ?_
    by_cases h : a.1 = true
    · rw [if_pos h, if_pos h]; exact ag_more hp rank m j a.2
    · rw [if_neg h, if_neg h]; exact Ag.same (Nat.le_refl _)
theorem ag_chain {p p' : Ps} (hp : AgP k p p') (F rank : Nat) : AgP k (chainR tk F rank p) (chainR tk' F rank p') := fun i ns => (hp i ns).bind fun a j hj => ag_more L hp rank F j a
theorem ag_open {α : Type} (t : List Nat) (d i : Nat) {f f' : Nat → R α} (hf : Ag k (i + 1) (f (i + 1)) (f' (i + 1))) : Ag k i (openR tk t d i f) (openR tk' t d i f') := by
  unfold openR
  refine Ag.ite (L.tx i t) (fun _ => ?_) (fun _ => Ag.same (Nat.le_refl _))
  by_cases h : d = 50
  · rw [if_pos h, if_pos h]; exact Ag.same (Nat.le_refl _)
  · rw [if_neg h, if_neg h]; exact hf.weak (Nat.le_succ i)
theorem ag_take {α : Type} (t : List Nat) (a : α) (i : Nat) : Ag k i (takeR tk t a i) (takeR tk' t a i) := Ag.ite (L.tx i t) (fun _ => Ag.same (Nat.le_succ i)) (fun _ => Ag.same (Nat.le_refl _))
theorem ag_pre (t : List Nat) (n d : Nat) {p p' : Ps} (hp : AgP k p p') : AgP k (preR tk t n d p) (preR tk' t n d p') := fun i ns => ag_open L t d i ((hp (i + 1) ns).bind fun a j hj => Ag.same (Nat.le_refl _))
theorem ag_brack (t c : List Nat) (d : Nat) {p p' : Ps} (hp : AgP k p p') : AgP k (brackR tk t c d p) (brackR tk' t c d p') := fun i ns => ag_open L t d i ((hp (i + 1) ns).bind fun a j hj => ag_take L c a j)
theorem ag_var : AgP k (varR tk) (varR tk') := fun i ns => by
  unfold varR
  refine Ag.ite (L.kx i 1) (fun _ => ?_) (fun _ => Ag.same (Nat.le_refl _))
  by_cases h : i ≤ k
  · rw [L.ht i h]; exact Ag.same (Nat.le_succ i)
  · exact Ag.over (Nat.le_succ i) (by omega)
theorem ag_un (F : Nat) : ∀ n d, AgP k (unR tk F n d) (unR tk' F n d)
  | 0, d => fun i ns => Ag.same (Nat.le_refl _)
  | n + 1, d => fun i ns => by
    unfold unR
    refine Ag.ite (L.tx i _) (fun _ => ag_pre L _ _ _ (ag_un F n (d + 1)) i ns) (fun _ => ?_)
    refine Ag.ite (L.tx i _) (fun _ => ag_brack L _ _ _ (ag_chain L (ag_chain L (ag_un F n (d + 1)) F 5) F 4) i ns) (fun _ => ?_)
    refine Ag.ite (L.kx i 2) (fun _ => ?_) (fun _ => ag_var L i ns)
    by_cases h : i ≤ k
    · rw [L.ht i h]; exact Ag.same (Nat.le_succ i)
    · exact Ag.over (Nat.le_succ i) (by omega)
theorem ag_sum (F n d : Nat) : AgP k (sumR tk F n d) (sumR tk' F n d) := ag_chain L (ag_chain L (ag_un L F n d) F 5) F 4
theorem ag_order (F d : Nat) : AgP k (orderR tk F d) (orderR tk' F d) := fun i ns => by
  unfold orderR
  refine (ag_sum L F F d i ns).bind fun a j hj => ?_
  refine (ag_joins L (ag_sum L F F d) 3 j a).bind fun b l hl => ?_
  by_cases h : b.1 = true
  · rw [if_pos h]; exact Ag.same (Nat.le_refl _)
  · rw [if_neg h]; exact Ag.same (Nat.le_refl _)
theorem ag_lit (F : Nat) : ∀ n d, AgP k (litR tk F n d) (litR tk' F n d)
  | 0, d => fun i ns => Ag.same (Nat.le_refl _)
  | n + 1, d => fun i ns => by
    unfold litR
    refine Ag.ite (L.tx i _) (fun _ => ag_pre L _ _ _ (ag_lit F n (d + 1)) i ns) (fun _ => ?_)
    refine Ag.ite (L.tx i _) (fun _ => ag_brack L _ _ _ (ag_chain L (ag_chain L (ag_lit F n (d + 1)) F 2) F 1) i ns) (fun _ => ?_)
    refine Ag.ite (L.tx i _) (fun _ => Ag.same (Nat.le_succ i)) (fun _ => ?_)
    refine Ag.ite (L.tx i _) (fun _ => Ag.same (Nat.le_succ i)) (fun _ => ?_)
    exact Ag.ite (L.tx i _) (fun _ => Ag.same (Nat.le_succ i)) (fun _ => ag_order L F d i ns)
theorem ag_expr (F d i : Nat) : Ag k i (exprR tk F d i) (exprR tk' F d i) := ag_sum L F F d i []
theorem ag_cond (F d i : Nat) : Ag k i (condR tk F d i) (condR tk' F d i) := ag_chain L (ag_chain L (ag_lit L F F d) F 2) F 1 i []
theorem ag_name (i : Nat) : Ag k i (nameR tk i) (nameR tk' i) := by
  unfold nameR
  refine Ag.ite (L.kx i 1) (fun _ => ?_) (fun _ => Ag.same (Nat.le_refl _))
  by_cases h : i ≤ k
  · rw [L.ht i h]; exact Ag.same (Nat.le_succ i)
  · exact Ag.over (Nat.le_succ i) (by omega)
theorem ag_listMore {α : Type} {one one' : Nat → R α} (ho : ∀ i, Ag k i (one i) (one' i)) : ∀ m l i, Ag k i (listMore tk one m l i) (listMore tk' one' m l i)
  | 0, l, i => Ag.same (Nat.le_refl _)
  | m + 1, l, i => by
    unfold listMore
    refine Ag.ite (L.tx i _) (fun _ => ?_) (fun _ => Ag.same (Nat.le_refl _))
    exact ((ho (i + 1)).weak (Nat.le_succ i)).bind fun a j hj => ag_listMore ho m (l ++ [a]) j
theorem ag_list {α : Type} (F : Nat) {one one' : Nat → R α} (ho : ∀ i, Ag k i (one i) (one' i)) (i : Nat) : Ag k i (listR tk F one i) (listR tk' F one' i) := by
  unfold listR
  refine Ag.ite (L.tx i _) (fun _ => ?_) (fun _ => Ag.same (Nat.le_refl _))
  refine (Ag.ite (i := i + 1) (L.tx (i + 1) _) (fun _ => Ag.same (Nat.le_succ _)) (fun _ => ?_)).weak (Nat.le_succ i)
  exact (ho (i + 1)).bind fun a j hj => (ag_listMore L ho F [a] j).bind fun l m hm => ag_take L _ l m
theorem ag_call (F d : Nat) (x : List Nat) (i : Nat) : Ag k i (callR tk F d x i) (callR tk' F d x i) :=
  (ag_name L i).bind fun p j hj => (ag_list L F (ag_expr L F d) j).bind fun l m hm => Ag.same (Nat.le_refl _)
/-- Behind a name all goes on behind it. -/
theorem call_on {F d i : Nat} {x : List Nat} (h : (tk i).k = 1) : i + 1 ≤ (callR tk F d x i).at := by
  unfold callR nameR
  rw [if_pos h]
  exact ((ag_list L F (ag_expr L F d) (i + 1)).bind (f' := fun l m => .ok (St.mk 8 x (tk i).t [] l [] []) m) fun l m hm => Ag.same (Nat.le_refl _)).1
theorem un_on {F n d i : Nat} {ns : List Nd} (h : (tk i).k = 1) : i + 1 ≤ (unR tk F (n + 1) d i ns).at := by
  obtain ⟨h1, h2⟩ := L.name i h
  unfold unR varR
  rw [if_neg h1, if_neg h2, if_neg (by omega), if_pos h]
  exact Nat.le_refl _
theorem expr_on {F d i : Nat} (h : (tk i).k = 1) : i + 1 ≤ (exprR tk (F + 1) d i).at := by
  unfold exprR sumR prodR
  have h1 : ∀ ns, i + 1 ≤ (chainR tk (F + 1) 5 (unR tk (F + 1) (F + 1) d) i ns).at := fun ns =>
    bind_at (un_on L h) (fun a j => (ag_more L (ag_un L (F + 1) (F + 1) d) 5 (F + 1) j a).1)
  exact bind_at (h1 []) (fun a j => (ag_more L (ag_chain L (ag_un L (F + 1) (F + 1) d) (F + 1) 5) 4 (F + 1) j a).1)
/-- A call, or else what does not look whether it is one. -/
theorem ag_calls {F d i : Nat} {x : List Nat} {b b' : R St} (hb : Ag k i b b') (hn : (tk i).k = 1 → i + 1 ≤ b.at) : Ag k i (if callsB tk i = true then callR tk F d x i else b) (if callsB tk' i = true then callR tk' F d x i else b') := by
  by_cases h1 : (tk i).k = 1
  · by_cases h2 : i + 1 ≤ k
    · have e : callsB tk' i = callsB tk i := by unfold callsB; rw [L.hk i (by omega), L.ht (i + 1) h2]
      rw [e]
      by_cases h : callsB tk i = true
      · rw [if_pos h, if_pos h]; exact ag_call L F d x i
      · rw [if_neg h, if_neg h]; exact hb
    · have hc := call_on L (F := F) (d := d) (x := x) h1
      have hb2 := hn h1
      by_cases h : callsB tk i = true
      · rw [if_pos h]; exact ⟨by omega, .inr (by omega)⟩
      · rw [if_neg h]; exact ⟨by omega, .inr (by omega)⟩
  · have e1 : callsB tk i = false := by unfold callsB; rw [decide_eq_false h1]; rfl
    rw [e1, if_neg (by simp)]
    by_cases h2 : i ≤ k
    · have e2 : callsB tk' i = false := by unfold callsB; rw [L.hk i h2, decide_eq_false h1]; rfl
      rw [e2, if_neg (by simp)]; exact hb
    · exact Ag.over hb.1 (by omega)
theorem ag_plain (F d i : Nat) : Ag k i (plainR tk (F + 1) d i) (plainR tk' (F + 1) d i) := by
  unfold plainR
  refine Ag.ite (L.tx i _) (fun _ => ((ag_name L (i + 1)).weak (Nat.le_succ i)).bind fun a j hj => Ag.same (Nat.le_refl _)) (fun _ => ?_)
  refine Ag.ite (L.tx i _) (fun _ => ((ag_cond L (F + 1) d (i + 1)).weak (Nat.le_succ i)).bind fun a j hj => Ag.same (Nat.le_refl _)) (fun _ => ?_)
  refine Ag.ite (L.tx i _) (fun _ => ((ag_cond L (F + 1) d (i + 1)).weak (Nat.le_succ i)).bind fun a j hj => Ag.same (Nat.le_refl _)) (fun _ => ?_)
  refine Ag.ite (L.tx i _) (fun _ => Ag.same (Nat.le_succ i)) (fun _ => ?_)
  have hx : ∀ x j, Ag k j (if (tk j).t = [61] then (if callsB tk (j + 1) = true then callR tk (F + 1) d x (j + 1) else (exprR tk (F + 1) d (j + 1)).bind fun e l => .ok (St.mk 1 x [] e [] [] []) l) else .bad 4 j)
      (if (tk' j).t = [61] then (if callsB tk' (j + 1) = true then callR tk' (F + 1) d x (j + 1) else (exprR tk' (F + 1) d (j + 1)).bind fun e l => .ok (St.mk 1 x [] e [] [] []) l) else .bad 4 j) := fun x j => by
    refine Ag.ite (L.tx j _) (fun _ => ?_) (fun _ => Ag.same (Nat.le_refl _))
    refine (ag_calls L ((ag_expr L (F + 1) d (j + 1)).bind fun a l hl => Ag.same (Nat.le_refl _)) (fun h => ?_)).weak (Nat.le_succ j)
    exact bind_at (expr_on L h) (fun a j => by exact Nat.le_refl _)
  refine ag_calls L ((ag_name L i).bind fun x j hj => hx x j) (fun h => ?_)
  unfold nameR
  rw [if_pos h]
  exact (hx (tk i).t (i + 1)).1
theorem ag_stmts {st st' : Nat → R St} (hs : ∀ i, Ag k i (st i) (st' i)) : ∀ m l i, Ag k i (stmtsM tk st m l i) (stmtsM tk' st' m l i)
  | 0, l, i => Ag.same (Nat.le_refl _)
  | m + 1, l, i => by
    unfold stmtsM
    exact Ag.ite (L.tx i _) (fun _ => Ag.same (Nat.le_succ i)) (fun _ => (hs i).bind fun a j hj => ag_stmts hs m (l ++ [a]) j)
theorem ag_block (F : Nat) {st st' : Nat → R St} (hs : ∀ i, Ag k i (st i) (st' i)) (d i : Nat) : Ag k i (blockR tk F st d i) (blockR tk' F st' d i) := ag_open L _ d i (ag_stmts L hs F [] (i + 1))
theorem ag_choice (F d : Nat) {st st' : Nat → R St} (hs : ∀ i, Ag k i (st i) (st' i)) (i : Nat) : Ag k i (choiceR tk F d st i) (choiceR tk' F d st' i) := by
  unfold choiceR
  refine (ag_cond L F d i).bind fun e j hj => (ag_block L F hs d j).bind fun b l hl => ?_
  exact Ag.ite (L.tx l _) (fun _ => ((ag_block L F hs d (l + 1)).weak (Nat.le_succ l)).bind fun c m hm => Ag.same (Nat.le_refl _)) (fun _ => Ag.same (Nat.le_refl _))
theorem ag_st (F : Nat) : ∀ n d i, Ag k i (stR tk (F + 1) n d i) (stR tk' (F + 1) n d i)
  | 0, d, i => Ag.same (Nat.le_refl _)
  | n + 1, d, i => by
    have hs := ag_st F n (d + 1)
    unfold stR
    refine Ag.ite (L.tx i _) (fun _ => (ag_choice L (F + 1) d hs (i + 1)).weak (Nat.le_succ i)) (fun _ => ?_)
    refine Ag.ite (L.tx i _) (fun _ => ((ag_cond L (F + 1) d (i + 1)).weak (Nat.le_succ i)).bind fun e j hj => (ag_block L (F + 1) hs d j).bind fun b l hl => Ag.same (Nat.le_refl _)) (fun _ => ?_)
    refine Ag.ite (L.tx i _) (fun _ => ((ag_block L (F + 1) hs d (i + 1)).weak (Nat.le_succ i)).bind fun b j hj => (ag_take L _ () j).bind fun _ l hl => (ag_block L (F + 1) hs d l).bind fun c m hm => Ag.same (Nat.le_refl _)) (fun _ => ?_)
    exact (ag_plain L F d i).bind fun s j hj => ag_take L _ s j
theorem ag_vars : ∀ m l i, Ag k i (varsM tk m l i) (varsM tk' m l i)
  | 0, l, i => Ag.same (Nat.le_refl _)
  | m + 1, l, i => by
    unfold varsM
    exact Ag.ite (L.tx i _) (fun _ => ((ag_name L (i + 1)).weak (Nat.le_succ i)).bind fun x j hj => (ag_take L _ () j).bind fun _ n hn => ag_vars m (l ++ [x]) n) (fun _ => Ag.same (Nat.le_refl _))
theorem ag_res (i : Nat) : Ag k i (resR tk i) (resR tk' i) := Ag.ite (L.tx i _) (fun _ => (ag_name L (i + 1)).weak (Nat.le_succ i)) (fun _ => Ag.same (Nat.le_refl _))
theorem ag_proc (F i : Nat) : Ag k i (procR tk (F + 1) i) (procR tk' (F + 1) i) :=
  (ag_take L _ () i).bind fun _ i1 _ => (ag_name L i1).bind fun x i2 _ => (ag_list L (F + 1) (ag_name L) i2).bind fun ps i3 _ => (ag_res L i3).bind fun r i4 _ =>
  (ag_take L _ () i4).bind fun _ i5 _ => (ag_vars L (F + 1) [] i5).bind fun vs i6 _ => (ag_stmts L (ag_st L F (F + 1) 0) (F + 1) [] i6).bind fun b i7 _ => Ag.same (Nat.le_refl _)
theorem ag_procs (F : Nat) : ∀ m l i, Ag k i (procsM tk (F + 1) m l i) (procsM tk' (F + 1) m l i)
  | 0, l, i => Ag.same (Nat.le_refl _)
  | m + 1, l, i => by
    unfold procsM
    exact Ag.ite (L.kx i 0) (fun _ => Ag.same (Nat.le_refl _)) (fun _ => (ag_proc L F i).bind fun p j hj => ag_procs F m (l ++ [p]) j)
/-- The same tokens up to where it is told: the same is told. -/
theorem prog_like (F : Nat) (h : (progR tk (F + 1)).at ≤ k) : progR tk' (F + 1) = progR tk (F + 1) := by
  have : Ag k 0 (progR tk (F + 1)) (progR tk' (F + 1)) := (ag_proc L F 0).bind fun p j hj => ag_procs L F (F + 1) [p] j
  rcases this.2 with e | e
  · exact e
  · omega
end
end Go.Proofs.YtjofhaakkleecaaDoor.Lx

namespace Go.Proofs.YtjofhaakkleecaaDoor
open Lx
set_option linter.unusedVariables false
set_option maxRecDepth 100000
set_option linter.unusedSimpArgs false

theorem span_cut (p : Nat → Bool) : ∀ (l : List Nat) (m : Nat), spanN p l ≤ m → spanN p (l.take m) = spanN p l
  | [], m, h => by simp [spanN]
  | c :: r, 0, h => by
    unfold spanN at h ⊢
    by_cases hc : p c = true
    · rw [if_pos hc] at h; omega
    · rw [if_neg hc]; rfl
  | c :: r, m + 1, h => by
    rw [List.take_succ_cons]
    unfold spanN at h ⊢
    by_cases hc : p c = true
    · rw [if_pos hc] at h
      rw [if_pos hc, if_pos hc, span_cut p r m (by omega)]
    · rw [if_neg hc, if_neg hc]
theorem head_cut (p : Nat → Bool) (l : List Nat) (m : Nat) (hm : 0 < m) : headIs p (l.take m) = headIs p l := by
  cases l with
  | nil => simp
  | cons c r =>
    match m, hm with
    | m + 1, _ => rfl
theorem head_cut_no (p : Nat → Bool) (l : List Nat) (m : Nat) (h : headIs p l = false) : headIs p (l.take m) = false := by
  cases m with
  | zero => rfl
  | succ m => rw [head_cut p l (m + 1) (by omega)]; exact h
theorem gap_cut : ∀ (l : List Nat) (rem : Bool) (m : Nat), gapN rem l < m → gapN rem (l.take m) = gapN rem l
  | [], rem, m, h => by simp
  | c :: r, rem, 0, h => by omega
  | c :: r, rem, m + 1, h => by
    rw [List.take_succ_cons]
    unfold gapN at h ⊢
    by_cases h1 : rem = true ∧ c ≠ 10
    · rw [if_pos h1] at h
      rw [if_pos h1, if_pos h1, gap_cut r true m (by omega)]
    · rw [if_neg h1] at h
      rw [if_neg h1, if_neg h1]
      by_cases h2 : isB c = true
      · rw [if_pos h2] at h
        rw [if_pos h2, if_pos h2, gap_cut r false m (by omega)]
      · rw [if_neg h2] at h
        rw [if_neg h2, if_neg h2]
        by_cases h3 : c = 35
        · rw [if_pos h3] at h
          rw [if_pos h3, if_pos h3, gap_cut r true m (by omega)]
        · rw [if_neg h3, if_neg h3]
theorem first_cut {l : List Nat} {k n m : Nat} (h : firstN l = (k, n, 0)) (hn : 0 < n) (hm : n ≤ m) : firstN (l.take m) = (k, n, 0) := by
  have hl : l ≠ [] := by
    intro e; subst e; simp [firstN] at h; omega
  have hl2 : l.take m ≠ [] := by
    intro e
    have : (l.take m).length = 0 := by rw [e]; rfl
    have h2 : 0 < l.length := List.length_pos_iff.2 hl
    rw [List.length_take] at this
    omega
  unfold firstN at h ⊢
  rw [if_neg hl] at h
  rw [if_neg hl2, head_cut _ _ _ (by omega), head_cut _ _ _ (by omega)]
  by_cases h1 : headIs isL l = true
  · rw [if_pos h1] at h ⊢
    unfold wordN at h ⊢
    by_cases h2 : isKey (l.take (spanN isW l)) = true
    · rw [if_pos h2] at h
      simp only [Prod.mk.injEq] at h
      rw [span_cut _ _ _ (by omega), List.take_take, Nat.min_eq_left (by omega), if_pos h2, h.1, h.2.1]
    · rw [if_neg h2] at h
      by_cases h3 : 16 < spanN isW l
      · rw [if_pos h3] at h; simp at h
      · rw [if_neg h3] at h
        simp only [Prod.mk.injEq] at h
        rw [span_cut _ _ _ (by omega), List.take_take, Nat.min_eq_left (by omega), if_neg h2, if_neg h3, h.1, h.2.1]
  · rw [if_neg h1] at h ⊢
    by_cases h2 : headIs isD l = true
    · rw [if_pos h2] at h ⊢
      unfold numberN at h ⊢
      by_cases h3 : 9 < spanN isD l
      · rw [if_pos h3] at h; simp at h
      · rw [if_neg h3] at h
        by_cases h4 : (1 < spanN isD l ∧ headIs (· == 48) l = true) ∨ headIs isW (l.drop (spanN isD l)) = true
        · rw [if_pos h4] at h; simp at h
        · rw [if_neg h4] at h
          simp only [Prod.mk.injEq] at h
          rw [span_cut _ _ _ (by omega), if_neg h3, if_neg, h.1, h.2.1]
          rintro (h5 | h5)
          · rw [head_cut _ _ _ (by omega)] at h5; exact h4 (.inl h5)
          · rw [List.drop_take, head_cut_no _ _ _ (by simpa using fun h6 => h4 (.inr h6))] at h5
            simp at h5
    · rw [if_neg h2] at h ⊢
      unfold signN at h ⊢
      by_cases h3 : l.take 2 ∈ twos
      · rw [if_pos h3] at h
        simp only [Prod.mk.injEq] at h
        rw [List.take_take, Nat.min_eq_left (by omega), if_pos h3, h.1, h.2.1]
      · rw [if_neg h3] at h
        by_cases h4 : headIs (fun c => decide (c ∈ ones)) l = true
        · rw [if_pos h4] at h
          simp only [Prod.mk.injEq] at h
          rw [if_neg, head_cut _ _ _ (by omega), if_pos h4, h.1, h.2.1]
          intro h5
          by_cases h6 : 2 ≤ m
          · rw [List.take_take, Nat.min_eq_left h6] at h5; exact h3 h5
          · have h7 : ((l.take m).take 2).length = 1 := by
              have : 0 < l.length := List.length_pos_iff.2 hl
              simp only [List.length_take]; omega
            have h8 : ∀ x ∈ twos, x.length = 2 := by decide
            rw [h8 _ h5] at h7
            omega
        · rw [if_neg h4] at h; simp at h
/-- A first token with a blank behind it. -/
theorem first_blank {l : List Nat} (hl : l ≠ []) (b : List Nat) : firstN (l ++ 32 :: b) = firstN l := first_app l 32 b hl rfl rfl rfl (by simp [twos]) rfl (by decide)
/-- The text up to the end of its j-th token, and another one behind a blank. -/
theorem lex_cut_join (b : List Nat) : ∀ (m : Nat) (x : List Nat) (p : Nat), x.length < m → (lexN false x p).2.1 = 0 → ∀ (j : Nat) (t : Tk), (lexN false x p).1[j]? = some t → j + 1 < (lexN false x p).1.length →
    ∃ e, p + e = t.p + t.t.length ∧ e ≤ x.length ∧ lexN false (x.take e ++ 32 :: b) p = comb ((lexN false x p).1.take (j + 1)) (lexN false b (p + e + 1)) := by
  intro m
  induction m with
  | zero => intro x p h; omega
  | succ m ih =>
    intro x p hlt he j t hj hlen
    obtain ⟨⟨k, n, e0⟩, ha⟩ : ∃ a, firstN (x.drop (gapN false x)) = a := ⟨_, rfl⟩
    have hu := lex_unfold false x p _ ha
    have hE : e0 = 0 := by
      rw [hu] at he
      by_cases h : e0 = 0
      · exact h
      · simp [h] at he
    subst hE
    have hgl := gapN_le false x
    have hfl := firstN_le (x.drop (gapN false x))
    rw [ha, List.length_drop] at hfl
    simp only at hfl
    obtain ⟨g, hg⟩ : ∃ g, gapN false x = g := ⟨_, rfl⟩
    rw [hg] at hu ha hgl hfl
    simp only [ne_eq, not_true_eq_false, if_false] at hu
    by_cases hn : n = 0
    · rw [if_pos hn] at hu
      rw [hu] at hlen
      simp at hlen
    · rw [if_neg hn] at hu
      have he2 : (lexN false ((x.drop g).drop n) (p + g + n)).2.1 = 0 := by
        rw [hu] at he
        unfold comb at he
        by_cases h3 : (lexN false ((x.drop g).drop n) (p + g + n)).2.1 = 0
        · exact h3
        · rw [if_pos h3] at he; exact absurd he h3
      have hu2 : lexN false x p = (⟨k, (x.drop g).take n, p + g⟩ :: (lexN false ((x.drop g).drop n) (p + g + n)).1, 0, 0) := by
        rw [hu]
        unfold comb
        rw [if_neg (by rw [he2]; simp)]
        rfl
      clear hu
      rw [hu2] at hj hlen
      have step : ∀ e, g + n ≤ e → lexN false (x.take e ++ 32 :: b) p = comb [⟨k, (x.drop g).take n, p + g⟩] (lexN false (((x.drop g).drop n).take (e - (g + n)) ++ 32 :: b) (p + g + n)) := by
        intro e hge
        have hgc : gapN false (x.take e ++ 32 :: b) = g := by
          have h1 : gapN false (x.take e) = g := by rw [gap_cut _ _ _ (by omega), hg]
          rw [gap_app _ (by rw [h1, List.length_take]; omega), h1]
        have hd : (x.take e ++ 32 :: b).drop g = (x.drop g).take (e - g) ++ 32 :: b := by rw [List.drop_append_of_le_length (by rw [List.length_take]; omega), List.drop_take]
        have hne : (x.drop g).take (e - g) ≠ [] := by
          intro h
          have : ((x.drop g).take (e - g)).length = 0 := by rw [h]; rfl
          rw [List.length_take, List.length_drop] at this
          omega
        have hfc : firstN ((x.take e ++ 32 :: b).drop (gapN false (x.take e ++ 32 :: b))) = (k, n, 0) := by rw [hgc, hd, first_blank hne]; exact first_cut ha (by omega) (by omega)
        have hv := lex_unfold false (x.take e ++ 32 :: b) p _ hfc
        rw [hgc, hd] at hv
        simp only [ne_eq, not_true_eq_false, if_false] at hv
        rw [if_neg hn] at hv
        have hln : n ≤ ((x.drop g).take (e - g)).length := by rw [List.length_take, List.length_drop]; omega
        rw [hv, List.take_append_of_le_length hln, List.drop_append_of_le_length hln, List.take_take, Nat.min_eq_left (by omega), List.drop_take]
        congr 4
        omega
      cases j with
      | zero =>
        simp only [List.getElem?_cons_zero, Option.some.injEq] at hj
        subst hj
        have hln : ((x.drop g).take n).length = n := by rw [List.length_take, List.length_drop]; omega
        refine ⟨g + n, by rw [hln]; show p + (g + n) = p + g + n; omega, by omega, ?_⟩
        rw [step (g + n) (Nat.le_refl _), hu2, Nat.sub_self, List.take_zero, List.nil_append, lex_blank rfl, show p + (g + n) + 1 = p + g + n + 1 by omega]
        rfl
      | succ j =>
        simp only [List.getElem?_cons_succ] at hj
        simp only [List.length_cons] at hlen
        have hlt2 : ((x.drop g).drop n).length < m := by simp only [List.length_drop]; omega
        obtain ⟨e, e1, e2, e3⟩ := ih _ _ hlt2 he2 j t hj (by omega)
        simp only [List.length_drop] at e2
        refine ⟨g + n + e, by omega, by omega, ?_⟩
        rw [step (g + n + e) (by omega), show g + n + e - (g + n) = e by omega, e3, hu2, comb_comb, show p + (g + n + e) + 1 = p + g + n + e + 1 by omega]
        rfl
/-- A name opens with a letter. -/
theorem first_name {l : List Nat} {n : Nat} (h : firstN l = (1, n, 0)) : headIs isL l = true := by
  unfold firstN at h
  split at h
  · simp at h
  · split at h
    · rename_i h1; exact h1
    · split at h
      · unfold numberN at h
        split at h
        · simp at h
        · split at h <;> simp at h
      · unfold signN at h
        split at h
        · simp at h
        · split at h <;> simp at h
theorem lex_names : ∀ (m : Nat) (x : List Nat) (p : Nat), x.length < m → (lexN false x p).2.1 = 0 → ∀ t ∈ (lexN false x p).1, t.k = 1 → headIs isL t.t = true := by
  intro m
  induction m with
  | zero => intro x p h; omega
  | succ m ih =>
    intro x p hlt he t ht hk1
    obtain ⟨⟨k, n, e0⟩, ha⟩ : ∃ a, firstN (x.drop (gapN false x)) = a := ⟨_, rfl⟩
    have hu := lex_unfold false x p _ ha
    have hE : e0 = 0 := by
      rw [hu] at he
      by_cases h : e0 = 0
      · exact h
      · simp [h] at he
    subst hE
    have hF := firstN_end ha
    simp only [ne_eq, not_true_eq_false, if_false] at hu
    by_cases hn : n = 0
    · rw [if_pos hn] at hu
      rw [hu] at ht
      simp only [List.mem_singleton] at ht
      subst ht
      have hk1 : k = 1 := hk1
      subst hk1
      by_cases hd : x.drop (gapN false x) = []
      · have := (hF.1 hd).1; omega
      · have := (hF.2 hd).2; omega
    · rw [if_neg hn] at hu
      have hd : x.drop (gapN false x) ≠ [] := fun hd => hn (hF.1 hd).2
      have he2 : (lexN false ((x.drop (gapN false x)).drop n) (p + gapN false x + n)).2.1 = 0 := by
        rw [hu] at he
        unfold comb at he
        by_cases h3 : (lexN false ((x.drop (gapN false x)).drop n) (p + gapN false x + n)).2.1 = 0
        · exact h3
        · rw [if_pos h3] at he; exact absurd he h3
      rw [hu] at ht
      unfold comb at ht
      rw [if_neg (by rw [he2]; simp)] at ht
      simp only [List.singleton_append, List.mem_cons] at ht
      rcases ht with rfl | ht
      · have hk1 : k = 1 := hk1
        subst hk1
        show headIs isL ((x.drop (gapN false x)).take n) = true
        rw [head_cut _ _ _ (by omega)]
        exact first_name ha
      · have hp : 0 < (x.drop (gapN false x)).length := List.length_pos_iff.2 hd
        exact ih _ _ (by simp only [List.length_drop] at hp ⊢; omega) he2 t ht hk1
theorem name_no {t : List Nat} (h : headIs isL t = true) : t ≠ [45] ∧ t ≠ [40] := by
  refine ⟨fun e => ?_, fun e => ?_⟩ <;> (subst e; simp [headIs, isL] at h)
/-- Places rise. -/
theorem chain_rise {l : List Nat} : ∀ {L : List Tk} {n : Nat}, Chain l n L → ∀ i, i < L.length → ∀ t, L[i]? = some t → n ≤ t.p ∧ ∀ j u, i < j → L[j]? = some u → t.p < u.p
  | [], n, h => absurd h (by simp [Chain])
  | a :: r, n, h => by
    obtain ⟨h1, h2, -, -, h5, h6⟩ := h
    have hpos : r ≠ [] → 0 < a.t.length := fun hr => List.length_pos_iff.2 (fun e => hr (h5.1 e))
    intro i hi t ht
    cases i with
    | zero =>
      simp only [List.getElem?_cons_zero, Option.some.injEq] at ht
      subst ht
      refine ⟨h1, fun j u hj hu => ?_⟩
      match j, hj with
      | j + 1, _ =>
        simp only [List.getElem?_cons_succ] at hu
        have hlt : j < r.length := by
          rcases Nat.lt_or_ge j r.length with h | h
          · exact h
          · rw [List.getElem?_eq_none h] at hu; simp at hu
        have hr : r ≠ [] := by intro e; subst e; simp at hlt
        have := (chain_rise (h6.resolve_left hr) j hlt u hu).1
        have := hpos hr
        omega
    | succ i =>
      simp only [List.getElem?_cons_succ] at ht
      simp only [List.length_cons] at hi
      have hr : r ≠ [] := by intro e; subst e; simp at hi
      obtain ⟨q1, q2⟩ := chain_rise (h6.resolve_left hr) i (by omega) t ht
      refine ⟨by omega, fun j u hj hu => ?_⟩
      match j, hj with
      | j + 1, hj =>
        simp only [List.getElem?_cons_succ] at hu
        exact q2 j u (by omega) hu
end Go.Proofs.YtjofhaakkleecaaDoor

namespace Go.Proofs.YtjofhaakkleecaaDoor
open Go.RowKit Lx
set_option linter.unusedVariables false
set_option maxRecDepth 100000
set_option linter.unusedSimpArgs false

theorem lexS_pair {l : List Nat} (h : (lexS l).2.1 = 0) : lexS l = ((lexS l).1, 0, 0) := by
  unfold lexS at h ⊢
  split
  · rename_i h1; rw [if_pos h1] at h; simp at h
  · rename_i h1
    rw [if_neg h1] at h
    exact Prod.ext rfl (Prod.ext h ((lex_shape false l 0).2 h))
theorem names_like {l : List Nat} (h : (lexS l).2.1 = 0) (i : Nat) (hk : (tks (lexS l).1 i).k = 1) : (tks (lexS l).1 i).t ≠ [45] ∧ (tks (lexS l).1 i).t ≠ [40] := by
  by_cases hi : i < (lexS l).1.length
  · rw [tks_get hi] at hk ⊢
    refine name_no ?_
    have hm : (lexS l).1[i] ∈ (lexS l).1 := List.getElem_mem hi
    generalize (lexS l).1[i] = t at *
    unfold lexS at h hm
    split at hm
    · simp at hm
    · rename_i h1
      rw [if_neg h1] at h
      exact lex_names (l.length + 1) l 0 (by omega) h t hm hk
  · exfalso
    unfold tks at hk
    rw [List.getD_eq_getElem?_getD, List.getElem?_eq_none (by omega)] at hk
    simp at hk
/-- Two texts whose tokens are alike up to where the parser tells: it tells the same of both. -/
theorem prog_same {a : List Nat} {M : List Tk} {k : Nat} (ha : (lexS a).2.1 = 0) (h : ∀ i, i ≤ k → (tks M i).k = (tks (lexS a).1 i).k ∧ (tks M i).t = (tks (lexS a).1 i).t) (hk : (progR (tks (lexS a).1) 8200).at ≤ k) :
    progR (tks M) 8200 = progR (tks (lexS a).1) 8200 :=
  prog_like (F := 8199) ⟨fun i hi => (h i hi).1, fun i hi => (h i hi).2, fun i hi => names_like ha i hi⟩ hk
theorem places_math {a b : List Nat} (ha : (lexS a).2.1 = 0) (hb : (lexS b).2.1 = 0) (za : a.length ≤ 600) (zb : b.length ≤ 600) {x k : Nat} (hp : progR (tks (lexS a).1) 8200 = .bad x k) (hk : k + 1 < (lexS a).1.length) :
    progS (a.take ((tks (lexS a).1 k).p + (tks (lexS a).1 k).t.length) ++ [32] ++ b) = ([], x, (tks (lexS a).1 k).p) := by
  have s1 : lexS a = lexN false a 0 := by unfold lexS; rw [if_neg (by omega)]
  obtain ⟨t, ht⟩ : ∃ t, tks (lexS a).1 k = t := ⟨_, rfl⟩
  have hgt : (lexS a).1[k]? = some t := by
    rw [← ht, tks_get (by omega)]
    exact List.getElem?_eq_getElem _
  rw [ht]
  obtain ⟨e, e1, e2, e3⟩ := lex_cut_join b (a.length + 1) a 0 (by omega) (by rw [← s1]; exact ha) k t (by rw [← s1]; exact hgt) (by rw [← s1]; exact hk)
  rw [← s1] at e3
  have hb2 : lexN false b (0 + e + 1) = ((lexS b).1.map (shT (e + 1)), 0, 0) := by
    have s3 : lexS b = lexN false b 0 := by unfold lexS; rw [if_neg (by omega)]
    have := lex_shift (e + 1) (b.length + 1) false b 0 (by omega) (by rw [← s3]; exact hb)
    rw [← s3] at this
    rw [show 0 + e + 1 = 0 + (e + 1) by omega, this]
  obtain ⟨M, hM⟩ : ∃ M, M = (lexS a).1.take (k + 1) ++ (lexS b).1.map (shT (e + 1)) := ⟨_, rfl⟩
  have hj : lexS (a.take e ++ [32] ++ b) = (M, 0, 0) := by
    have : lexS (a.take e ++ [32] ++ b) = lexN false (a.take e ++ 32 :: b) 0 := by
      unfold lexS
      rw [if_neg (by simp only [List.length_append, List.length_take, List.length_cons, List.length_nil]; omega), List.append_assoc]
      rfl
    rw [this, e3, hb2]
    unfold comb
    rw [hM]
    rfl
  rw [show t.p + t.t.length = e by omega]
  have hlike : ∀ i, i ≤ k → tks M i = tks (lexS a).1 i := by
    intro i hi
    have h1 : M[i]? = (lexS a).1[i]? := by
      rw [hM, List.getElem?_append_left (by rw [List.length_take]; omega), List.getElem?_take, if_pos (by omega)]
    unfold tks
    rw [List.getD_eq_getElem?_getD, List.getD_eq_getElem?_getD, h1]
  have hpp := prog_same (M := M) (k := k) ha (fun i hi => by rw [hlike i hi]; exact ⟨rfl, rfl⟩) (by rw [hp]; exact Nat.le_refl _)
  unfold progS
  rw [hj]
  simp only [ne_eq, not_true_eq_false, if_false]
  rw [hpp, hp]
  simp only
  rw [hlike k (Nat.le_refl _), ht]
/-- Where the parser tells is a token. -/
theorem prog_at {T : List Tk} (ok : Tks.Ok T) (F : Nat) : (progR (tks T) F).at < T.length := by
  have h1 := proc_fine ok F ok.pos
  unfold progR
  cases hq : procR (tks T) F 0 with
  | bad x j => rw [hq] at h1; exact h1
  | ok p j =>
    rw [hq] at h1
    have h2 := procsM_fine ok F F [p] h1.2
    simp only [R.bind]
    cases hq2 : procsM (tks T) F F [p] j with
    | bad x j => rw [hq2] at h2; exact h2
    | ok l j => rw [hq2] at h2; exact h2.2
theorem places_of {a : List Nat} {x p : Nat} (ha : (lexS a).2.1 = 0) (hs : ∀ c ∈ a, c < 256) (h : progS a = ([], x, p)) (hx : x ≠ 0) : ∃ k, k < (lexS a).1.length ∧ progR (tks (lexS a).1) 8200 = .bad x k ∧ (tks (lexS a).1 k).p = p := by
  unfold progS at h
  rw [if_neg (by simpa using ha)] at h
  have hat := prog_at (lexS_ok hs ha).1 8200
  cases hq : progR (tks (lexS a).1) 8200 with
  | ok l j => rw [hq] at h; simp at h; omega
  | bad y j =>
    rw [hq] at h hat
    simp at h
    obtain ⟨rfl, rfl⟩ := h
    exact ⟨j, hat, rfl, rfl⟩
end Go.Proofs.YtjofhaakkleecaaDoor

namespace Go.Proofs.YtjofhaakkleecaaDoor
open Go.RowKit Lx
set_option linter.unusedVariables false
set_option maxRecDepth 100000
set_option linter.unusedSimpArgs false

def sepN : Nat → List Nat
  | 0 => [32]
  | 1 => [10]
  | 2 => [32, 35, 32, 114, 101, 109, 97, 114, 107, 32, 59, 32, 120, 32, 61, 32, 10]
  | _ => [9, 13, 10]
/-- The texts of tokens, what stands between turning round. -/
def joinB : Nat → List Tk → List Nat
  | _, [] => []
  | i, t :: r => sepN (i % 4) ++ (t.t ++ joinB (i + 1) r)
theorem sep_gap (n : Nat) (b : List Nat) : gapN false (sepN n ++ b) = (sepN n).length + gapN false b := by
  unfold sepN
  split <;> simp [gapN, isB] <;> omega
theorem sep_head (n : Nat) : ∃ c r, sepN n = c :: r ∧ isL c = false ∧ isD c = false ∧ isW c = false ∧ (∀ a, [a, c] ∉ twos) ∧ (c == 48) = false ∧ c ∉ ones := by
  unfold sepN
  split
  · exact ⟨32, [], rfl, rfl, rfl, rfl, by simp [twos], rfl, by decide⟩
  · exact ⟨10, [], rfl, rfl, rfl, rfl, by simp [twos], rfl, by decide⟩
  · exact ⟨32, _, rfl, rfl, rfl, rfl, by simp [twos], rfl, by decide⟩
  · exact ⟨9, _, rfl, rfl, rfl, rfl, by simp [twos], rfl, by decide⟩
/-- A token by itself. -/
def Each : List Tk → Prop
  | [] => False
  | [e] => e.k = 0 ∧ e.t = []
  | t :: r => (firstN t.t = (t.k, t.t.length, 0) ∧ t.t ≠ []) ∧ Each r
theorem each_cons {t : Tk} {r : List Tk} (h : firstN t.t = (t.k, t.t.length, 0) ∧ t.t ≠ []) (hr : Each r) : Each (t :: r) := by
  cases r with
  | nil => exact hr.elim
  | cons a b => exact ⟨h, hr⟩
theorem lex_each : ∀ (m : Nat) (x : List Nat) (p : Nat), x.length < m → (lexN false x p).2.1 = 0 → Each (lexN false x p).1 := by
  intro m
  induction m with
  | zero => intro x p h; omega
  | succ m ih =>
    intro x p hlt he
    obtain ⟨⟨k, n, e0⟩, ha⟩ : ∃ a, firstN (x.drop (gapN false x)) = a := ⟨_, rfl⟩
    have hu := lex_unfold false x p _ ha
    have hE : e0 = 0 := by
      rw [hu] at he
      by_cases h : e0 = 0
      · exact h
      · simp [h] at he
    subst hE
    have hF := firstN_end ha
    have hfl := firstN_le (x.drop (gapN false x))
    rw [ha] at hfl
    simp only at hfl
    simp only [ne_eq, not_true_eq_false, if_false] at hu
    by_cases hn : n = 0
    · rw [if_pos hn] at hu
      rw [hu]
      have hd : x.drop (gapN false x) = [] := Classical.byContradiction fun hd => by have := (hF.2 hd).2; omega
      exact ⟨(hF.1 hd).1, rfl⟩
    · rw [if_neg hn] at hu
      have hd : x.drop (gapN false x) ≠ [] := fun hd => hn (hF.1 hd).2
      have hp : 0 < (x.drop (gapN false x)).length := List.length_pos_iff.2 hd
      have he2 : (lexN false ((x.drop (gapN false x)).drop n) (p + gapN false x + n)).2.1 = 0 := by
        rw [hu] at he
        unfold comb at he
        by_cases h3 : (lexN false ((x.drop (gapN false x)).drop n) (p + gapN false x + n)).2.1 = 0
        · exact h3
        · rw [if_pos h3] at he; exact absurd he h3
      have hi := ih _ _ (by simp only [List.length_drop] at hp ⊢; omega) he2
      rw [hu]
      unfold comb
      rw [if_neg (by rw [he2]; simp)]
      have hln : ((x.drop (gapN false x)).take n).length = n := by rw [List.length_take]; omega
      refine each_cons ⟨?_, ?_⟩ hi
      · show firstN ((x.drop (gapN false x)).take n) = (k, ((x.drop (gapN false x)).take n).length, 0)
        rw [hln]
        exact first_cut ha (by omega) (Nat.le_refl _)
      · show (x.drop (gapN false x)).take n ≠ []
        intro h
        rw [h] at hln
        simp at hln
        omega
theorem first_nogap {c : Nat} {r : List Nat} {k n : Nat} (h : firstN (c :: r) = (k, n, 0)) : isB c = false ∧ c ≠ 35 := by
  have key : ∀ c, (c = 32 ∨ c = 9 ∨ c = 10 ∨ c = 13 ∨ c = 35) → ∀ r k n, firstN (c :: r) ≠ (k, n, 0) := by
    intro c hc r k n e
    have h1 : headIs isL (c :: r) = false := by rcases hc with rfl | rfl | rfl | rfl | rfl <;> rfl
    have h2 : headIs isD (c :: r) = false := by rcases hc with rfl | rfl | rfl | rfl | rfl <;> rfl
    have h3 : headIs (fun c => decide (c ∈ ones)) (c :: r) = false := by rcases hc with rfl | rfl | rfl | rfl | rfl <;> rfl
    have h4 : (c :: r).take 2 ∉ twos := by rcases hc with rfl | rfl | rfl | rfl | rfl <;> simp [twos]
    unfold firstN at e
    rw [if_neg (by simp), h1, if_neg (by simp), h2, if_neg (by simp)] at e
    unfold signN at e
    rw [if_neg h4, h3, if_neg (by simp)] at e
    simp at e
  constructor
  · by_cases hb : isB c = true
    · simp only [isB, Bool.or_eq_true, beq_iff_eq] at hb
      exact absurd h (key c (by omega) r k n)
    · simpa using hb
  · intro e
    exact key c (by omega) r k n h
theorem joinB_lex : ∀ (L : List Tk) (i p : Nat), Each L → ∃ M, lexN false (joinB i L) p = (M, 0, 0) ∧ M.map (fun t => (t.k, t.t)) = L.map (fun t => (t.k, t.t))
  | [], i, p, h => h.elim
  | [e], i, p, h => by
    have hg : gapN false (sepN (i % 4) ++ []) = (sepN (i % 4)).length + gapN false [] := sep_gap _ _
    refine ⟨[⟨0, [], p + (sepN (i % 4)).length⟩], ?_, by simp [h.1, h.2]⟩
    unfold joinB joinB
    rw [h.2, List.nil_append, lex_gone hg, lex_unfold false [] _ _ rfl]
    simp [firstN_nil, gapN]
  | t :: a :: r, i, p, h => by
    obtain ⟨⟨h1, h2⟩, h3⟩ := h
    obtain ⟨M, hM, hm⟩ := joinB_lex (a :: r) (i + 1) (p + (sepN (i % 4)).length + t.t.length) h3
    refine ⟨⟨t.k, t.t, p + (sepN (i % 4)).length⟩ :: M, ?_, by simp only [List.map_cons] at hm ⊢; rw [hm]⟩
    have e : joinB i (t :: a :: r) = sepN (i % 4) ++ (t.t ++ joinB (i + 1) (a :: r)) := rfl
    obtain ⟨c, q, hc, q1, q2, q3, q4, q5, q6⟩ := sep_head ((i + 1) % 4)
    have e2 : ∃ y, joinB (i + 1) (a :: r) = c :: y := ⟨q ++ (a.t ++ joinB (i + 1 + 1) r), by show sepN ((i + 1) % 4) ++ (a.t ++ joinB (i + 1 + 1) r) = _; rw [hc]; rfl⟩
    obtain ⟨y, hy⟩ := e2
    have hg0 : gapN false (t.t ++ joinB (i + 1) (a :: r)) = 0 := by
      cases ht : t.t with
      | nil => exact absurd ht h2
      | cons b s =>
        rw [ht] at h1
        obtain ⟨g1, g2⟩ := first_nogap h1
        rw [List.cons_append]
        unfold gapN
        rw [if_neg (by simp), g1, if_neg (by simp), if_neg g2]
    have hf : firstN ((t.t ++ joinB (i + 1) (a :: r)).drop (gapN false (t.t ++ joinB (i + 1) (a :: r)))) = (t.k, t.t.length, 0) := by
      rw [hg0, List.drop_zero, hy, first_app _ _ _ h2 q1 q2 q3 q4 q5 q6]
      exact h1
    rw [e, lex_gone (sep_gap _ _), lex_unfold _ _ _ _ hf, hg0]
    simp only [ne_eq, not_true_eq_false, if_false, List.drop_zero]
    rw [if_neg (by rw [List.length_eq_zero_iff]; exact h2), List.drop_left, List.take_left, Nat.add_zero, hM]
    rfl
/-- How long it is. -/
def potN : Nat → Nat
  | 0 => 10
  | 1 => 28
  | 2 => 46
  | _ => 0
def textsN : List Tk → Nat
  | [] => 0
  | t :: r => t.t.length + textsN r
theorem joinB_len : ∀ (L : List Tk) (i : Nat), 4 * (joinB i L).length ≤ 4 * textsN L + 22 * L.length + potN (i % 4)
  | [], i => by simp [joinB, textsN]
  | t :: r, i => by
    have ih := joinB_len r (i + 1)
    have hs : 4 * (sepN (i % 4)).length + potN ((i + 1) % 4) ≤ 22 + potN (i % 4) := by
      have h4 : i % 4 = 0 ∨ i % 4 = 1 ∨ i % 4 = 2 ∨ i % 4 = 3 := by omega
      rcases h4 with h | h | h | h
      · rw [h, show (i + 1) % 4 = 1 by omega]; decide
      · rw [h, show (i + 1) % 4 = 2 by omega]; decide
      · rw [h, show (i + 1) % 4 = 3 by omega]; decide
      · rw [h, show (i + 1) % 4 = 0 by omega]; decide
    unfold joinB textsN
    simp only [List.length_append, List.length_cons]
    omega
theorem chain_texts {l : List Nat} : ∀ {L : List Tk} {n : Nat}, Chain l n L → textsN L + n ≤ l.length ∧ L.length + n ≤ l.length + 1
  | [], n, h => absurd h (by simp [Chain])
  | t :: r, n, h => by
    obtain ⟨h1, h2, -, -, h5, h6⟩ := h
    rcases h6 with h6 | h6
    · subst h6
      simp [textsN]
      omega
    · obtain ⟨q1, q2⟩ := chain_texts h6
      have h8 : 0 < t.t.length := List.length_pos_iff.2 (fun e => by have := h5.1 e; subst this; exact absurd h6 (by simp [Chain]))
      simp only [textsN, List.length_cons]
      omega
theorem pot_le (n : Nat) : potN n ≤ 46 := by unfold potN; split <;> omega
theorem blanks_len {a : List Nat} (ha : (lexS a).2.1 = 0) (za : a.length ≤ 600) (i : Nat) : (joinB i (lexS a).1).length ≤ 4000 := by
  obtain ⟨h1, h2⟩ := chain_texts (chain_lex a ha)
  have := joinB_len (lexS a).1 i
  have := pot_le (i % 4)
  omega
/-- The program is the same. -/
theorem blanks_math {a : List Nat} (ha : (lexS a).2.1 = 0) (za : a.length ≤ 600) (i : Nat) : (progS (joinB i (lexS a).1)).1 = (progS a).1 ∧ (progS (joinB i (lexS a).1)).2.1 = (progS a).2.1 := by
  have s1 : lexS a = lexN false a 0 := by unfold lexS; rw [if_neg (by omega)]
  have hE : Each (lexS a).1 := by rw [s1]; exact lex_each (a.length + 1) a 0 (by omega) (by rw [← s1]; exact ha)
  obtain ⟨M, hM, hm⟩ := joinB_lex (lexS a).1 i 0 hE
  have hz := blanks_len ha za i
  have hj : lexS (joinB i (lexS a).1) = (M, 0, 0) := by unfold lexS at hz hM hm ⊢; rw [if_neg (by omega)]; exact hM
  have hlen : M.length = (lexS a).1.length := by have := congrArg List.length hm; simpa using this
  have hlike : ∀ j, (tks M j).k = (tks (lexS a).1 j).k ∧ (tks M j).t = (tks (lexS a).1 j).t := by
    intro j
    have h1 : (M.map (fun t => (t.k, t.t)))[j]? = ((lexS a).1.map (fun t => (t.k, t.t)))[j]? := by rw [hm]
    rw [List.getElem?_map, List.getElem?_map] at h1
    unfold tks
    rw [List.getD_eq_getElem?_getD, List.getD_eq_getElem?_getD]
    cases hq : M[j]? with
    | none =>
      rw [hq] at h1
      cases hq2 : (lexS a).1[j]? with
      | none => exact ⟨rfl, rfl⟩
      | some u => rw [hq2] at h1; simp at h1
    | some v =>
      rw [hq] at h1
      cases hq2 : (lexS a).1[j]? with
      | none => rw [hq2] at h1; simp at h1
      | some u => rw [hq2] at h1; simpa using h1
  have hpp := prog_same (M := M) (k := (progR (tks (lexS a).1) 8200).at) ha (fun j _ => hlike j) (Nat.le_refl _)
  unfold progS
  rw [hj]
  simp only [ne_eq, not_true_eq_false, if_false]
  rw [if_neg (by simpa using ha), hpp]
  cases progR (tks (lexS a).1) 8200 <;> exact ⟨rfl, rfl⟩
end Go.Proofs.YtjofhaakkleecaaDoor
