/-
  Plain mathematics of the parser: what it tells hangs on the tokens up to where it tells it alone.
-/
import Derived.Test.YtjofhaakkleecaaDoorQ0
namespace Go.Proofs.YtjofhaakkleecaaDoor.Lx
set_option linter.unusedVariables false
set_option maxRecDepth 100000

def R.at {α : Type} : R α → Nat
  | .ok _ i => i
  | .bad _ i => i

/-- Tokens of the same kinds and texts up to k; a name is no sign and no bracket. -/
structure Like (k : Nat) (tk tk' : Tks) : Prop where
  hk : ∀ i, i ≤ k → (tk' i).k = (tk i).k
  ht : ∀ i, i ≤ k → (tk' i).t = (tk i).t
  name : ∀ i, (tk i).k = 1 → (tk i).t ≠ [45] ∧ (tk i).t ≠ [40]

/-- One answer, from i on, and the other: it is the same, or it tells of what stands behind k. -/
def Ag {α : Type} (k i : Nat) (r r' : R α) : Prop := i ≤ r.at ∧ (r' = r ∨ k < r.at)

section
variable {α β : Type} {k i j : Nat}
theorem Ag.same {r : R α} (h : i ≤ r.at) : Ag k i r r := ⟨h, .inl rfl⟩
theorem Ag.weak {r r' : R α} (h : Ag k j r r') (hi : i ≤ j) : Ag k i r r' := ⟨Nat.le_trans hi h.1, h.2⟩
theorem Ag.over {r r' : R α} (h : i ≤ r.at) (hk : k < i) : Ag k i r r' := ⟨h, .inr (by omega)⟩
theorem Ag.bind {r r' : R α} {f f' : α → Nat → R β} (h : Ag k i r r') (hf : ∀ a j, i ≤ j → Ag k j (f a j) (f' a j)) : Ag k i (r.bind f) (r'.bind f') := by
  obtain ⟨h1, h2⟩ := h
  cases r with
  | bad e j =>
    refine ⟨h1, ?_⟩
    rcases h2 with rfl | h2
    · exact .inl rfl
    · exact .inr h2
  | ok a j =>
    have h1 : i ≤ j := h1
    obtain ⟨h3, h4⟩ := hf a j h1
    refine ⟨Nat.le_trans h1 h3, ?_⟩
    rcases h2 with rfl | h2
    · exact h4
    · have h2 : k < j := h2
      exact .inr (Nat.lt_of_lt_of_le h2 h3)
theorem Ag.ite {c c' : Prop} [Decidable c] [Decidable c'] {a a' b b' : R α} (hc : i ≤ k → (c' ↔ c)) (ha : c → Ag k i a a') (hb : ¬ c → Ag k i b b') : Ag k i (if c then a else b) (if c' then a' else b') := by
  by_cases hk : i ≤ k
  · by_cases h : c
    · rw [if_pos h, if_pos ((hc hk).2 h)]; exact ha h
    · rw [if_neg h, if_neg (fun q => h ((hc hk).1 q))]; exact hb h
  · by_cases h : c
    · rw [if_pos h]; exact Ag.over (ha h).1 (by omega)
    · rw [if_neg h]; exact Ag.over (hb h).1 (by omega)
theorem bind_at {r : R α} {f : α → Nat → R β} (hr : i ≤ r.at) (hf : ∀ a j, j ≤ (f a j).at) : i ≤ (r.bind f).at := by
  cases r with
  | ok a j => exact Nat.le_trans hr (hf a j)
  | bad e j => exact hr
end
section
variable {k : Nat} {tk tk' : Tks} (L : Like k tk tk')
include L
def AgP (k : Nat) (p p' : Ps) : Prop := ∀ i ns, Ag k i (p i ns) (p' i ns)
theorem Like.tx (i : Nat) (c : List Nat) : i ≤ k → ((tk' i).t = c ↔ (tk i).t = c) := fun h => by rw [L.ht i h]
theorem Like.kx (i c : Nat) : i ≤ k → ((tk' i).k = c ↔ (tk i).k = c) := fun h => by rw [L.hk i h]
theorem ag_joins {p p' : Ps} (hp : AgP k p p') (rank i : Nat) (ns : List Nd) : Ag k i (joinsR tk rank p i ns) (joinsR tk' rank p' i ns) := by
  unfold joinsR
  refine Ag.ite (fun h => by rw [L.ht i h]) (fun _ => Ag.same (Nat.le_refl _)) (fun _ => ?_)
  by_cases h : i ≤ k
  · rw [L.ht i h]
    exact ((hp (i + 1) ns).weak (Nat.le_succ i)).bind fun a j hj => Ag.same (Nat.le_refl _)
  · refine Ag.over ?_ (by omega)
    exact (((hp (i + 1) ns).weak (Nat.le_succ i)).bind (f' := fun ns' j => .ok (true, ns' ++ [⟨(opr (tk i).t).1, 0, [], lastI ns, lastI ns'⟩]) j) fun a j hj => Ag.same (Nat.le_refl _)).1
theorem ag_more {p p' : Ps} (hp : AgP k p p') (rank : Nat) : ∀ m, AgP k (moreR tk rank p m) (moreR tk' rank p' m)
  | 0 => fun i ns => Ag.same (Nat.le_refl _)
  | m + 1 => fun i ns => by
    unfold moreR
    refine (ag_joins L hp rank i ns).bind fun a j hj => ?_
    by_cases h : a.1 = true
    · rw [if_pos h, if_pos h]; exact ag_more hp rank m j a.2
    · rw [if_neg h, if_neg h]; exact Ag.same (Nat.le_refl _)
theorem ag_chain {p p' : Ps} (hp : AgP k p p') (F rank : Nat) : AgP k (chainR tk F rank p) (chainR tk' F rank p') := fun i ns => (hp i ns).bind fun a j hj => ag_more L hp rank F j a
theorem ag_open {α : Type} (t : List Nat) (d i : Nat) {f f' : Nat → R α} (hf : Ag k (i + 1) (f (i + 1)) (f' (i + 1))) : Ag k i (openR tk t d i f) (openR tk' t d i f') := by
  unfold openR
  refine Ag.ite (L.tx i t) (fun _ => ?_) (fun _ => Ag.same (Nat.le_refl _))
  by_cases h : d = 50
  · rw [if_pos h, if_pos h]; exact Ag.same (Nat.le_refl _)
  · rw [if_neg h, if_neg h]; exact hf.weak (Nat.le_succ i)
theorem ag_take {α : Type} (t : List Nat) (a : α) (i : Nat) : Ag k i (takeR tk t a i) (takeR tk' t a i) := Ag.ite (L.tx i t) (fun _ => Ag.same (Nat.le_succ i)) (fun _ => Ag.same (Nat.le_refl _))
theorem ag_pre (t : List Nat) (n d : Nat) {p p' : Ps} (hp : AgP k p p') : AgP k (preR tk t n d p) (preR tk' t n d p') := fun i ns => ag_open L t d i ((hp (i + 1) ns).bind fun a j hj => Ag.same (Nat.le_refl _))
theorem ag_brack (t c : List Nat) (d : Nat) {p p' : Ps} (hp : AgP k p p') : AgP k (brackR tk t c d p) (brackR tk' t c d p') := fun i ns => ag_open L t d i ((hp (i + 1) ns).bind fun a j hj => ag_take L c a j)
theorem ag_var : AgP k (varR tk) (varR tk') := fun i ns => by
  unfold varR
  refine Ag.ite (L.kx i 1) (fun _ => ?_) (fun _ => Ag.same (Nat.le_refl _))
  by_cases h : i ≤ k
  · rw [L.ht i h]; exact Ag.same (Nat.le_succ i)
  · exact Ag.over (Nat.le_succ i) (by omega)
theorem ag_un (F : Nat) : ∀ n d, AgP k (unR tk F n d) (unR tk' F n d)
  | 0, d => fun i ns => Ag.same (Nat.le_refl _)
  | n + 1, d => fun i ns => by
    unfold unR
    refine Ag.ite (L.tx i _) (fun _ => ag_pre L _ _ _ (ag_un F n (d + 1)) i ns) (fun _ => ?_)
    refine Ag.ite (L.tx i _) (fun _ => ag_brack L _ _ _ (ag_chain L (ag_chain L (ag_un F n (d + 1)) F 5) F 4) i ns) (fun _ => ?_)
    refine Ag.ite (L.kx i 2) (fun _ => ?_) (fun _ => ag_var L i ns)
    by_cases h : i ≤ k
    · rw [L.ht i h]; exact Ag.same (Nat.le_succ i)
    · exact Ag.over (Nat.le_succ i) (by omega)
theorem ag_sum (F n d : Nat) : AgP k (sumR tk F n d) (sumR tk' F n d) := ag_chain L (ag_chain L (ag_un L F n d) F 5) F 4
theorem ag_order (F d : Nat) : AgP k (orderR tk F d) (orderR tk' F d) := fun i ns => by
  unfold orderR
  refine (ag_sum L F F d i ns).bind fun a j hj => ?_
  refine (ag_joins L (ag_sum L F F d) 3 j a).bind fun b l hl => ?_
  by_cases h : b.1 = true
  · rw [if_pos h]; exact Ag.same (Nat.le_refl _)
  · rw [if_neg h]; exact Ag.same (Nat.le_refl _)
theorem ag_lit (F : Nat) : ∀ n d, AgP k (litR tk F n d) (litR tk' F n d)
  | 0, d => fun i ns => Ag.same (Nat.le_refl _)
  | n + 1, d => fun i ns => by
    unfold litR
    refine Ag.ite (L.tx i _) (fun _ => ag_pre L _ _ _ (ag_lit F n (d + 1)) i ns) (fun _ => ?_)
    refine Ag.ite (L.tx i _) (fun _ => ag_brack L _ _ _ (ag_chain L (ag_chain L (ag_lit F n (d + 1)) F 2) F 1) i ns) (fun _ => ?_)
    refine Ag.ite (L.tx i _) (fun _ => Ag.same (Nat.le_succ i)) (fun _ => ?_)
    refine Ag.ite (L.tx i _) (fun _ => Ag.same (Nat.le_succ i)) (fun _ => ?_)
    exact Ag.ite (L.tx i _) (fun _ => Ag.same (Nat.le_succ i)) (fun _ => ag_order L F d i ns)
theorem ag_expr (F d i : Nat) : Ag k i (exprR tk F d i) (exprR tk' F d i) := ag_sum L F F d i []
theorem ag_cond (F d i : Nat) : Ag k i (condR tk F d i) (condR tk' F d i) := ag_chain L (ag_chain L (ag_lit L F F d) F 2) F 1 i []
theorem ag_name (i : Nat) : Ag k i (nameR tk i) (nameR tk' i) := by
  unfold nameR
  refine Ag.ite (L.kx i 1) (fun _ => ?_) (fun _ => Ag.same (Nat.le_refl _))
  by_cases h : i ≤ k
  · rw [L.ht i h]; exact Ag.same (Nat.le_succ i)
  · exact Ag.over (Nat.le_succ i) (by omega)
theorem ag_listMore {α : Type} {one one' : Nat → R α} (ho : ∀ i, Ag k i (one i) (one' i)) : ∀ m l i, Ag k i (listMore tk one m l i) (listMore tk' one' m l i)
  | 0, l, i => Ag.same (Nat.le_refl _)
  | m + 1, l, i => by
    unfold listMore
    refine Ag.ite (L.tx i _) (fun _ => ?_) (fun _ => Ag.same (Nat.le_refl _))
    exact ((ho (i + 1)).weak (Nat.le_succ i)).bind fun a j hj => ag_listMore ho m (l ++ [a]) j
theorem ag_list {α : Type} (F : Nat) {one one' : Nat → R α} (ho : ∀ i, Ag k i (one i) (one' i)) (i : Nat) : Ag k i (listR tk F one i) (listR tk' F one' i) := by
  unfold listR
  refine Ag.ite (L.tx i _) (fun _ => ?_) (fun _ => Ag.same (Nat.le_refl _))
  refine (Ag.ite (i := i + 1) (L.tx (i + 1) _) (fun _ => Ag.same (Nat.le_succ _)) (fun _ => ?_)).weak (Nat.le_succ i)
  exact (ho (i + 1)).bind fun a j hj => (ag_listMore L ho F [a] j).bind fun l m hm => ag_take L _ l m
theorem ag_call (F d : Nat) (x : List Nat) (i : Nat) : Ag k i (callR tk F d x i) (callR tk' F d x i) :=
  (ag_name L i).bind fun p j hj => (ag_list L F (ag_expr L F d) j).bind fun l m hm => Ag.same (Nat.le_refl _)
/-- Behind a name all goes on behind it. -/
theorem call_on {F d i : Nat} {x : List Nat} (h : (tk i).k = 1) : i + 1 ≤ (callR tk F d x i).at := by
  unfold callR nameR
  rw [if_pos h]
  exact ((ag_list L F (ag_expr L F d) (i + 1)).bind (f' := fun l m => .ok (St.mk 8 x (tk i).t [] l [] []) m) fun l m hm => Ag.same (Nat.le_refl _)).1
theorem un_on {F n d i : Nat} {ns : List Nd} (h : (tk i).k = 1) : i + 1 ≤ (unR tk F (n + 1) d i ns).at := by
  obtain ⟨h1, h2⟩ := L.name i h
  unfold unR varR
  rw [if_neg h1, if_neg h2, if_neg (by omega), if_pos h]
  exact Nat.le_refl _
theorem expr_on {F d i : Nat} (h : (tk i).k = 1) : i + 1 ≤ (exprR tk (F + 1) d i).at := by
  unfold exprR sumR prodR
  have h1 : ∀ ns, i + 1 ≤ (chainR tk (F + 1) 5 (unR tk (F + 1) (F + 1) d) i ns).at := fun ns =>
    bind_at (un_on L h) (fun a j => (ag_more L (ag_un L (F + 1) (F + 1) d) 5 (F + 1) j a).1)
  exact bind_at (h1 []) (fun a j => (ag_more L (ag_chain L (ag_un L (F + 1) (F + 1) d) (F + 1) 5) 4 (F + 1) j a).1)
/-- A call, or else what does not look whether it is one. -/
theorem ag_calls {F d i : Nat} {x : List Nat} {b b' : R St} (hb : Ag k i b b') (hn : (tk i).k = 1 → i + 1 ≤ b.at) : Ag k i (if callsB tk i = true then callR tk F d x i else b) (if callsB tk' i = true then callR tk' F d x i else b') := by
  by_cases h1 : (tk i).k = 1
  · by_cases h2 : i + 1 ≤ k
    · have e : callsB tk' i = callsB tk i := by unfold callsB; rw [L.hk i (by omega), L.ht (i + 1) h2]
      rw [e]
      by_cases h : callsB tk i = true
      · rw [if_pos h, if_pos h]; exact ag_call L F d x i
      · rw [if_neg h, if_neg h]; exact hb
    · have hc := call_on L (F := F) (d := d) (x := x) h1
      have hb2 := hn h1
      by_cases h : callsB tk i = true
      · rw [if_pos h]; exact ⟨by omega, .inr (by omega)⟩
      · rw [if_neg h]; exact ⟨by omega, .inr (by omega)⟩
  · have e1 : callsB tk i = false := by unfold callsB; rw [decide_eq_false h1]; rfl
    rw [e1, if_neg (by simp)]
    by_cases h2 : i ≤ k
    · have e2 : callsB tk' i = false := by unfold callsB; rw [L.hk i h2, decide_eq_false h1]; rfl
      rw [e2, if_neg (by simp)]; exact hb
    · exact Ag.over hb.1 (by omega)
theorem ag_plain (F d i : Nat) : Ag k i (plainR tk (F + 1) d i) (plainR tk' (F + 1) d i) := by
  unfold plainR
  refine Ag.ite (L.tx i _) (fun _ => ((ag_name L (i + 1)).weak (Nat.le_succ i)).bind fun a j hj => Ag.same (Nat.le_refl _)) (fun _ => ?_)
  refine Ag.ite (L.tx i _) (fun _ => ((ag_cond L (F + 1) d (i + 1)).weak (Nat.le_succ i)).bind fun a j hj => Ag.same (Nat.le_refl _)) (fun _ => ?_)
  refine Ag.ite (L.tx i _) (fun _ => ((ag_cond L (F + 1) d (i + 1)).weak (Nat.le_succ i)).bind fun a j hj => Ag.same (Nat.le_refl _)) (fun _ => ?_)
  refine Ag.ite (L.tx i _) (fun _ => Ag.same (Nat.le_succ i)) (fun _ => ?_)
  have hx : ∀ x j, Ag k j (if (tk j).t = [61] then (if callsB tk (j + 1) = true then callR tk (F + 1) d x (j + 1) else (exprR tk (F + 1) d (j + 1)).bind fun e l => .ok (St.mk 1 x [] e [] [] []) l) else .bad 4 j)
      (if (tk' j).t = [61] then (if callsB tk' (j + 1) = true then callR tk' (F + 1) d x (j + 1) else (exprR tk' (F + 1) d (j + 1)).bind fun e l => .ok (St.mk 1 x [] e [] [] []) l) else .bad 4 j) := fun x j => by
    refine Ag.ite (L.tx j _) (fun _ => ?_) (fun _ => Ag.same (Nat.le_refl _))
    refine (ag_calls L ((ag_expr L (F + 1) d (j + 1)).bind fun a l hl => Ag.same (Nat.le_refl _)) (fun h => ?_)).weak (Nat.le_succ j)
    exact bind_at (expr_on L h) (fun a j => by exact Nat.le_refl _)
  refine ag_calls L ((ag_name L i).bind fun x j hj => hx x j) (fun h => ?_)
  unfold nameR
  rw [if_pos h]
  exact (hx (tk i).t (i + 1)).1
theorem ag_stmts {st st' : Nat → R St} (hs : ∀ i, Ag k i (st i) (st' i)) : ∀ m l i, Ag k i (stmtsM tk st m l i) (stmtsM tk' st' m l i)
  | 0, l, i => Ag.same (Nat.le_refl _)
  | m + 1, l, i => by
    unfold stmtsM
    exact Ag.ite (L.tx i _) (fun _ => Ag.same (Nat.le_succ i)) (fun _ => (hs i).bind fun a j hj => ag_stmts hs m (l ++ [a]) j)
theorem ag_block (F : Nat) {st st' : Nat → R St} (hs : ∀ i, Ag k i (st i) (st' i)) (d i : Nat) : Ag k i (blockR tk F st d i) (blockR tk' F st' d i) := ag_open L _ d i (ag_stmts L hs F [] (i + 1))
theorem ag_choice (F d : Nat) {st st' : Nat → R St} (hs : ∀ i, Ag k i (st i) (st' i)) (i : Nat) : Ag k i (choiceR tk F d st i) (choiceR tk' F d st' i) := by
  unfold choiceR
  refine (ag_cond L F d i).bind fun e j hj => (ag_block L F hs d j).bind fun b l hl => ?_
  exact Ag.ite (L.tx l _) (fun _ => ((ag_block L F hs d (l + 1)).weak (Nat.le_succ l)).bind fun c m hm => Ag.same (Nat.le_refl _)) (fun _ => Ag.same (Nat.le_refl _))
theorem ag_st (F : Nat) : ∀ n d i, Ag k i (stR tk (F + 1) n d i) (stR tk' (F + 1) n d i)
  | 0, d, i => Ag.same (Nat.le_refl _)
  | n + 1, d, i => by
    have hs := ag_st F n (d + 1)
    unfold stR
    refine Ag.ite (L.tx i _) (fun _ => (ag_choice L (F + 1) d hs (i + 1)).weak (Nat.le_succ i)) (fun _ => ?_)
    refine Ag.ite (L.tx i _) (fun _ => ((ag_cond L (F + 1) d (i + 1)).weak (Nat.le_succ i)).bind fun e j hj => (ag_block L (F + 1) hs d j).bind fun b l hl => Ag.same (Nat.le_refl _)) (fun _ => ?_)
    refine Ag.ite (L.tx i _) (fun _ => ((ag_block L (F + 1) hs d (i + 1)).weak (Nat.le_succ i)).bind fun b j hj => (ag_take L _ () j).bind fun _ l hl => (ag_block L (F + 1) hs d l).bind fun c m hm => Ag.same (Nat.le_refl _)) (fun _ => ?_)
    exact (ag_plain L F d i).bind fun s j hj => ag_take L _ s j
theorem ag_vars : ∀ m l i, Ag k i (varsM tk m l i) (varsM tk' m l i)
  | 0, l, i => Ag.same (Nat.le_refl _)
  | m + 1, l, i => by
    unfold varsM
    exact Ag.ite (L.tx i _) (fun _ => ((ag_name L (i + 1)).weak (Nat.le_succ i)).bind fun x j hj => (ag_take L _ () j).bind fun _ n hn => ag_vars m (l ++ [x]) n) (fun _ => Ag.same (Nat.le_refl _))
theorem ag_res (i : Nat) : Ag k i (resR tk i) (resR tk' i) := Ag.ite (L.tx i _) (fun _ => (ag_name L (i + 1)).weak (Nat.le_succ i)) (fun _ => Ag.same (Nat.le_refl _))
theorem ag_proc (F i : Nat) : Ag k i (procR tk (F + 1) i) (procR tk' (F + 1) i) :=
  (ag_take L _ () i).bind fun _ i1 _ => (ag_name L i1).bind fun x i2 _ => (ag_list L (F + 1) (ag_name L) i2).bind fun ps i3 _ => (ag_res L i3).bind fun r i4 _ =>
  (ag_take L _ () i4).bind fun _ i5 _ => (ag_vars L (F + 1) [] i5).bind fun vs i6 _ => (ag_stmts L (ag_st L F (F + 1) 0) (F + 1) [] i6).bind fun b i7 _ => Ag.same (Nat.le_refl _)
theorem ag_procs (F : Nat) : ∀ m l i, Ag k i (procsM tk (F + 1) m l i) (procsM tk' (F + 1) m l i)
  | 0, l, i => Ag.same (Nat.le_refl _)
  | m + 1, l, i => by
    unfold procsM
    exact Ag.ite (L.kx i 0) (fun _ => Ag.same (Nat.le_refl _)) (fun _ => (ag_proc L F i).bind fun p j hj => ag_procs F m (l ++ [p]) j)
/-- The same tokens up to where it is told: the same is told. -/
theorem prog_like (F : Nat) (h : (progR tk (F + 1)).at ≤ k) : progR tk' (F + 1) = progR tk (F + 1) := by
  have : Ag k 0 (progR tk (F + 1)) (progR tk' (F + 1)) := (ag_proc L F 0).bind fun p j hj => ag_procs L F (F + 1) [p] j
  rcases this.2 with e | e
  · exact e
  · omega
end
end Go.Proofs.YtjofhaakkleecaaDoor.Lx
