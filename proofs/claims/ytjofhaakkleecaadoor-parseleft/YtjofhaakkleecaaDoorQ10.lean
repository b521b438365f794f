/-
  What is told of nodes, statements, procedures, in memory; cond and expr.
-/
import Derived.Test.YtjofhaakkleecaaDoorQ9
import Derived.Deep.AppendLies
namespace Go.Proofs.YtjofhaakkleecaaDoor
open Go.RowKit Lx
set_option linter.unusedSimpArgs false
set_option linter.unusedVariables false
set_option maxRecDepth 100000

/-- A slice of values of n cells each, in blocks of a kind. -/
def SlF (w : World) (ok : Nat → Prop) (n : Nat) (ao : Option Addr) (m cap : Nat) (L : List (List Value)) : Prop :=
  m = L.length ∧ m ≤ cap ∧ cap ≤ maxLen ∧ (m = 0 ∨ ∃ g, ao = some ⟨g, 0, none⟩ ∧ ok g ∧ g < w.heap.size ∧ ∀ j (hj : j < L.length), CellsAt w g (j * n) L[j])
/-- .. of nodes; of rows of nodes. -/
def NdF (w : World) (ok : Nat → Prop) (ao : Option Addr) (m cap : Nat) (ns : List Nd) : Prop := SlF w ok 5 ao m cap (ns.map ndC)
def NdV (w : World) (ok : Nat → Prop) (ns : List Nd) (v : Value) : Prop := ∃ ao m cap, v = .slice ao m cap ∧ NdF w ok ao m cap ns
def AllV {α : Type} (P : α → Value → Prop) : List α → List (List Value) → Prop
  | [], [] => True
  | a :: A, c :: C => (∃ v, c = [v] ∧ P a v) ∧ AllV P A C
  | _, _ => False
def ArF (w : World) (ok : Nat → Prop) (ao : Option Addr) (m cap : Nat) (A : List (List Nd)) : Prop := ∃ vs, SlF w ok 1 ao m cap vs ∧ AllV (NdV w ok) A vs
def ArV (w : World) (ok : Nat → Prop) (A : List (List Nd)) (v : Value) : Prop := ∃ ao m cap, v = .slice ao m cap ∧ ArF w ok ao m cap A
def txC (t : List Nat) : List Value := [.string (str t)]
def TxF (w : World) (ok : Nat → Prop) (ao : Option Addr) (m cap : Nat) (L : List (List Nat)) : Prop := SlF w ok 1 ao m cap (L.map txC)
def TxV (w : World) (ok : Nat → Prop) (L : List (List Nat)) (v : Value) : Prop := ∃ ao m cap, v = .slice ao m cap ∧ TxF w ok ao m cap L

mutual
/-- A statement's value. -/
def StV (w : World) (ok : Nat → Prop) : St → Value → Prop
  | .mk k name proc e args body els, v => ∃ ae me ce aa ma ca ab mb cb al ml cl vb vl,
    v = .agg #[.int .i64 (k : Int), .string (str name), .string (str proc), .slice ae me ce, .slice aa ma ca, .slice ab mb cb, .slice al ml cl] ∧
    NdF w ok ae me ce e ∧ ArF w ok aa ma ca args ∧ (SlF w ok 7 ab mb cb vb ∧ StsV w ok body vb) ∧ SlF w ok 7 al ml cl vl ∧ StsV w ok els vl
def StsV (w : World) (ok : Nat → Prop) : List St → List (List Value) → Prop
  | [], vs => vs = []
  | s :: L, vs => ∃ c r, vs = c :: r ∧ c.length = 7 ∧ StV w ok s (.agg c.toArray) ∧ StsV w ok L r
end
def SsF (w : World) (ok : Nat → Prop) (ao : Option Addr) (m cap : Nat) (L : List St) : Prop := ∃ vs, SlF w ok 7 ao m cap vs ∧ StsV w ok L vs
def SsV (w : World) (ok : Nat → Prop) (L : List St) (v : Value) : Prop := ∃ ao m cap, v = .slice ao m cap ∧ SsF w ok ao m cap L

section
variable {w w' : World} {ok ok' : Nat → Prop}
/-- What turns from one world to another: nothing of the blocks of a kind. -/
def Same (w w' : World) (ok ok' : Nat → Prop) : Prop := w.heap.size ≤ w'.heap.size ∧ ∀ b, b < w.heap.size → ok b → w'.heap[b]? = w.heap[b]? ∧ ok' b
theorem SlF.move {n : Nat} {ao : Option Addr} {m cap : Nat} {L : List (List Value)} (h : SlF w ok n ao m cap L) (hs : Same w w' ok ok') : SlF w' ok' n ao m cap L := by
  obtain ⟨h1, h2, h3, h4⟩ := h
  refine ⟨h1, h2, h3, ?_⟩
  rcases h4 with h4 | ⟨g, e, hg, hl, hc⟩
  · exact .inl h4
  · obtain ⟨s1, s2⟩ := hs.2 g hl hg
    exact .inr ⟨g, e, s2, Nat.lt_of_lt_of_le hl hs.1, fun j hj c u hu => (World.cell?_of_block (a := ⟨g, _, none⟩) s1).trans (hc j hj c u hu)⟩
theorem NdV.move {ns : List Nd} {v : Value} (h : NdV w ok ns v) (hs : Same w w' ok ok') : NdV w' ok' ns v := by
  obtain ⟨ao, m, cap, e, h1⟩ := h
  exact ⟨ao, m, cap, e, SlF.move h1 hs⟩
theorem AllV.imp {α : Type} {P Q : α → Value → Prop} (hi : ∀ a v, P a v → Q a v) : ∀ {A : List α} {C : List (List Value)}, AllV P A C → AllV Q A C
  | [], [], _ => trivial
  | a :: A, c :: C, ⟨⟨v, e, h⟩, h2⟩ => ⟨⟨v, e, hi _ _ h⟩, AllV.imp hi h2⟩
  | [], _ :: _, h => h.elim
  | _ :: _, [], h => h.elim
theorem AllV.len {α : Type} {P : α → Value → Prop} : ∀ {A : List α} {C : List (List Value)}, AllV P A C → C.length = A.length
  | [], [], _ => rfl
  | a :: A, c :: C, ⟨_, h2⟩ => by simp [AllV.len h2]
  | [], _ :: _, h => h.elim
  | _ :: _, [], h => h.elim
theorem AllV.snoc {α : Type} {P : α → Value → Prop} {a : α} {v : Value} (hv : P a v) : ∀ {A : List α} {C : List (List Value)}, AllV P A C → AllV P (A ++ [a]) (C ++ [[v]])
  | [], [], _ => ⟨⟨v, rfl, hv⟩, trivial⟩
  | b :: A, c :: C, ⟨h1, h2⟩ => ⟨h1, AllV.snoc hv h2⟩
  | [], _ :: _, h => h.elim
  | _ :: _, [], h => h.elim
theorem ArF.move {ao : Option Addr} {m cap : Nat} {A : List (List Nd)} (h : ArF w ok ao m cap A) (hs : Same w w' ok ok') : ArF w' ok' ao m cap A := by
  obtain ⟨vs, h1, h2⟩ := h
  exact ⟨vs, h1.move hs, h2.imp fun a v h => h.move hs⟩
mutual
theorem stv_move (hs : Same w w' ok ok') : ∀ (s : St) (v : Value), StV w ok s v → StV w' ok' s v
  | .mk k name proc e args body els, v, h => by
    unfold StV at h ⊢
    obtain ⟨ae, me, ce, aa, ma, ca, ab, mb, cb, al, ml, cl, vb, vl, e1, h1, h2, ⟨h3, h4⟩, h5, h6⟩ := h
    exact ⟨ae, me, ce, aa, ma, ca, ab, mb, cb, al, ml, cl, vb, vl, e1, SlF.move h1 hs, h2.move hs, ⟨h3.move hs, stsv_move hs body vb h4⟩, h5.move hs, stsv_move hs els vl h6⟩
theorem stsv_move (hs : Same w w' ok ok') : ∀ (L : List St) (vs : List (List Value)), StsV w ok L vs → StsV w' ok' L vs
  | [], vs, h => by unfold StsV at h ⊢; exact h
  | s :: L, vs, h => by
    unfold StsV at h ⊢
    obtain ⟨c, r, e, hc, h1, h2⟩ := h
    exact ⟨c, r, e, hc, stv_move hs s _ h1, stsv_move hs L r h2⟩
end
theorem stsv_snoc {s : St} {c : List Value} (hc : c.length = 7) (hv : StV w ok s (.agg c.toArray)) : ∀ (L : List St) (vs : List (List Value)), StsV w ok L vs → StsV w ok (L ++ [s]) (vs ++ [c])
  | [], vs, h => by
    unfold StsV at h; subst h
    show StsV w ok [s] [c]
    unfold StsV
    exact ⟨c, [], rfl, hc, hv, by unfold StsV; rfl⟩
  | t :: L, vs, h => by
    unfold StsV at h
    obtain ⟨d, r, e, hd, h1, h2⟩ := h
    subst e
    show StsV w ok (t :: (L ++ [s])) (d :: (r ++ [c]))
    unfold StsV
    exact ⟨d, _, rfl, hd, h1, stsv_snoc hc hv L r h2⟩
theorem SsF.move {ao : Option Addr} {m cap : Nat} {L : List St} (h : SsF w ok ao m cap L) (hs : Same w w' ok ok') : SsF w' ok' ao m cap L := by
  obtain ⟨vs, h1, h2⟩ := h
  exact ⟨vs, h1.move hs, stsv_move hs _ _ h2⟩
end
theorem nd_nil (w : World) (ok : Nat → Prop) : NdF w ok none 0 0 [] := ⟨rfl, Nat.le_refl _, by unfold maxLen; omega, .inl rfl⟩
theorem ar_nil (w : World) (ok : Nat → Prop) : ArF w ok none 0 0 [] := ⟨[], ⟨rfl, Nat.le_refl _, by unfold maxLen; omega, .inl rfl⟩, trivial⟩
theorem ss_nil (w : World) (ok : Nat → Prop) : SsF w ok none 0 0 [] := ⟨[], ⟨rfl, Nat.le_refl _, by unfold maxLen; omega, .inl rfl⟩, by unfold StsV; rfl⟩
theorem tx_nil (w : World) (ok : Nat → Prop) : TxF w ok none 0 0 [] := ⟨rfl, Nat.le_refl _, by unfold maxLen; omega, .inl rfl⟩
/-- A row of one's own, as it is read. -/
theorem OwnV.slf {w : World} {base n : Nat} {e : TypeId} {ao : Option Addr} {m c : Nat} {L : List (List Value)} (h : OwnV w base e n (.slice ao m c) L) (hL : ∀ l ∈ L, l.length = n) : SlF w (fun b => base ≤ b) n ao m c L := by
  obtain ⟨ao', cap, e1, h1, h2, h3⟩ := h.shape hL
  simp only [Value.slice.injEq] at e1
  obtain ⟨rfl, rfl, rfl⟩ := e1
  refine ⟨rfl, h1, h2, ?_⟩
  rcases h3 with h3 | ⟨g, e2, hb, hl, hc⟩
  · exact .inl h3
  · exact .inr ⟨g, e2, hb, hl, hc⟩
theorem same_low {w : World} {B B' : Nat} (h : B' ≤ B) : Same w w (fun b => B ≤ b) (fun b => B' ≤ b) := ⟨Nat.le_refl _, fun b _ hb => ⟨rfl, Nat.le_trans h hb⟩⟩

/-- What a reader tells. -/
def ROut {α : Type} (w : World) (gR gt cap : Nat) (T : List Tk) (d : Nat) (rep : (Nat → Prop) → World → α → Value → Prop) (res : R α) (e : Ending) (w' : World) : Prop :=
  match res with
  | .ok a j => (∃ v, e = .returned v ∧ rep (fun b => w.heap.size ≤ b) w' a v) ∧ RS w' gR gt cap T j d ∧ w.grownBy w' (some gR)
  | .bad x j => Gone T x j e ∧ w.grownBy w' (some gR)
theorem rout_cases {α : Type} {w w' : World} {gR gt cap d : Nat} {T : List Tk} {rep : (Nat → Prop) → World → α → Value → Prop} {res : R α} {e : Ending} (h : ROut w gR gt cap T d rep res e w') :
    (∃ a j v, res = .ok a j ∧ e = .returned v ∧ rep (fun b => w.heap.size ≤ b) w' a v ∧ RS w' gR gt cap T j d ∧ w.grownBy w' (some gR)) ∨ (∃ x j, res = .bad x j ∧ Gone T x j e ∧ w.grownBy w' (some gR)) := by
  cases res with
  | ok a j => obtain ⟨⟨v, h1, h2⟩, h3, h4⟩ := h; exact .inl ⟨a, j, v, rfl, h1, h2, h3, h4⟩
  | bad x j => exact .inr ⟨x, j, rfl, h⟩

section
variable {w : World} {gR gt cap i d : Nat} {T : List Tk}
theorem tree_new (h : RS w gR gt cap T i d) (hd : d ≤ 50) : TS (w.alloc (.cells #[.pointer (some ⟨gR, 0, none⟩), .slice none 0 0] 85)) w.heap.size w.heap.size gR gt cap T i d [] :=
  ⟨h.below ((Below.refl _ _).alloc (Nat.le_refl _) _), ⟨_, Box2.new w _ _ _, ownV_nil _ _ _ _⟩, h.box.lt, Nat.le_refl _, hd⟩
theorem kx_tree {w1 : World} {o : Obj} (h : Kx w.heap.size gR (w.alloc o) w1) : w.grownBy w1 (some gR) :=
  (((Kx.refl w.heap.size gR w).alloc (Nat.le_refl _) o).trans h).grownBy (Nat.le_refl _)
theorem pcond_any (ok : Tks.Ok T) {F : Nat} (hF : T.length ≤ F) (h : RS w gR gt cap T i d) (hd : d ≤ 50) (hi : i < T.length) :
    Calls Tryd.prog 45 #[.pointer (some ⟨gR, 0, none⟩)] w (ROut w gR gt cap T d (fun ok w' a v => NdV w' ok a v) (condR (tks T) F d i)) := by
  have HP := hid (pdisjunction_all ok hF F d _ _ _ gR gt cap i [] (tree_new h hd) hi (Nat.zero_le _) (by omega))
  have HU : Hid (condR (tks T) F d i = disjR (tks T) F F d i []) := hid rfl
  have hz := h.box.lt
  clear h ok hF
  go_enter Tryd.func45, Tryd.ntmps45
  go_wp2_with fail
  refine HP.out.mono ?_
  intro e w9 h9
  rcases tout_cases h9 with ⟨ns9, j9, hr9, rfl, hs9, hx9⟩ | ⟨x9, j9, hr9, hg9, hx9⟩
  · obtain ⟨ao2, m2, k2, b2, o2⟩ := hs9.tree
    obtain ⟨c0, c1⟩ := b2.c
    have HS9 := hid hs9.rs
    have HX9 := hid (kx_tree hx9)
    have HR9 := hid hr9
    have HO9 := hid o2
    clear hs9 hx9 hr9 h9 b2 o2
    go_wp2_with fail
    go_ret
    rw [HU.out, HR9.out]
    exact ⟨⟨_, rfl, ao2, m2, k2, rfl, (HO9.out.slf (by simp; intro t _; rfl)).move (same_low (Nat.le_succ _))⟩, HS9.out, HX9.out⟩
  · unfold Gone at hg9
    subst hg9
    refine ⟨rfl, ?_⟩
    rw [HU.out, hr9]
    exact ⟨rfl, kx_tree hx9⟩
theorem pexpr_any (ok : Tks.Ok T) {F : Nat} (hF : T.length ≤ F) (h : RS w gR gt cap T i d) (hd : d ≤ 50) (hi : i < T.length) :
    Calls Tryd.prog 54 #[.pointer (some ⟨gR, 0, none⟩)] w (ROut w gR gt cap T d (fun ok w' a v => NdV w' ok a v) (exprR (tks T) F d i)) := by
  have HP := hid (psum_all ok hF F d _ _ _ gR gt cap i [] (tree_new h hd) hi (Nat.zero_le _) (by omega))
  have HU : Hid (exprR (tks T) F d i = sumR (tks T) F F d i []) := hid rfl
  have hz := h.box.lt
  clear h ok hF
  go_enter Tryd.func54, Tryd.ntmps54
  go_wp2_with fail
  refine HP.out.mono ?_
  intro e w9 h9
  rcases tout_cases h9 with ⟨ns9, j9, hr9, rfl, hs9, hx9⟩ | ⟨x9, j9, hr9, hg9, hx9⟩
  · obtain ⟨ao2, m2, k2, b2, o2⟩ := hs9.tree
    obtain ⟨c0, c1⟩ := b2.c
    have HS9 := hid hs9.rs
    have HX9 := hid (kx_tree hx9)
    have HR9 := hid hr9
    have HO9 := hid o2
    clear hs9 hx9 hr9 h9 b2 o2
    go_wp2_with fail
    go_ret
    rw [HU.out, HR9.out]
    exact ⟨⟨_, rfl, ao2, m2, k2, rfl, (HO9.out.slf (by simp; intro t _; rfl)).move (same_low (Nat.le_succ _))⟩, HS9.out, HX9.out⟩
  · unfold Gone at hg9
    subst hg9
    refine ⟨rfl, ?_⟩
    rw [HU.out, hr9]
    exact ⟨rfl, kx_tree hx9⟩
end
end Go.Proofs.YtjofhaakkleecaaDoor
