/-
  Procedures and programs in memory; plain mathematics of them.
-/
import Derived.Test.YtjofhaakkleecaaDoorQ18
import Derived.Deep.RegionLaw
namespace Go.Proofs.YtjofhaakkleecaaDoor
open Go.RowKit Lx
set_option linter.unusedSimpArgs false
set_option linter.unusedVariables false
set_option maxRecDepth 100000

/-- A block of five cells. -/
def Box5 (w : World) (g : Nat) (x0 x1 x2 x3 x4 : Value) : Prop := ∃ T, w.heap[g]? = some (.cells #[x0, x1, x2, x3, x4] T (0, 0))
section
variable {w w' : World} {g : Nat} {x0 x1 x2 x3 x4 : Value}
theorem Box5.lt (h : Box5 w g x0 x1 x2 x3 x4) : g < w.heap.size := by
  obtain ⟨T, h⟩ := h
  exact (Array.getElem?_eq_some_iff.1 h).1
theorem Box5.c (h : Box5 w g x0 x1 x2 x3 x4) : w.cell? ⟨g, 0, none⟩ = some x0 ∧ w.cell? ⟨g, 1, none⟩ = some x1 ∧ w.cell? ⟨g, 2, none⟩ = some x2 ∧ w.cell? ⟨g, 3, none⟩ = some x3 ∧ w.cell? ⟨g, 4, none⟩ = some x4 := by
  obtain ⟨T, h⟩ := h
  refine ⟨?_, ?_, ?_, ?_, ?_⟩
  · rw [cell_of_row w g 0 _ _ _ h]; rfl
  · rw [cell_of_row w g 1 _ _ _ h]; rfl
  · rw [cell_of_row w g 2 _ _ _ h]; rfl
  · rw [cell_of_row w g 3 _ _ _ h]; rfl
  · rw [cell_of_row w g 4 _ _ _ h]; rfl
theorem Box5.f (h : Box5 w g x0 x1 x2 x3 x4) (i : Nat) : w.frozen? ⟨g, i, none⟩ = false := by
  obtain ⟨T, h⟩ := h
  exact frozen_of_row w g i _ _ h
theorem Box5.at (h : Box5 w g x0 x1 x2 x3 x4) (hs : w'.heap[g]? = w.heap[g]?) : Box5 w' g x0 x1 x2 x3 x4 := by
  obtain ⟨T, h⟩ := h
  exact ⟨T, hs.trans h⟩
theorem Box5.keep (h : Box5 w g x0 x1 x2 x3 x4) (hb : Below w.heap.size w w') : Box5 w' g x0 x1 x2 x3 x4 := h.at (hb.block g h.lt)
theorem Box5.grown {row : Option Nat} (h : Box5 w g x0 x1 x2 x3 x4) (hg : w.grownBy w' row) (hne : some g ≠ row) : Box5 w' g x0 x1 x2 x3 x4 := h.at (hg.block g h.lt hne)
theorem Box5.new (w : World) (x0 x1 x2 x3 x4 : Value) (T : TypeId) : Box5 (w.alloc (.cells #[x0, x1, x2, x3, x4] T)) w.heap.size x0 x1 x2 x3 x4 := ⟨T, heap_alloc_new w _⟩
theorem Box5.other (h : Box5 w g x0 x1 x2 x3 x4) {b c : Nat} (hb : b ≠ g) (u : Value) : Box5 (w.setCell ⟨b, c, none⟩ u) g x0 x1 x2 x3 x4 := h.at (heap_setCell_other w ⟨b, c, none⟩ g u (by simpa using hb.symm))
theorem Box5.set0 (h : Box5 w g x0 x1 x2 x3 x4) (u : Value) : Box5 (w.setCell ⟨g, 0, none⟩ u) g u x1 x2 x3 x4 := by
  obtain ⟨T, h⟩ := h; exact ⟨T, by rw [heap_setCell_same w g 0 _ T u h]; rfl⟩
theorem Box5.set1 (h : Box5 w g x0 x1 x2 x3 x4) (u : Value) : Box5 (w.setCell ⟨g, 1, none⟩ u) g x0 u x2 x3 x4 := by
  obtain ⟨T, h⟩ := h; exact ⟨T, by rw [heap_setCell_same w g 1 _ T u h]; rfl⟩
theorem Box5.set2 (h : Box5 w g x0 x1 x2 x3 x4) (u : Value) : Box5 (w.setCell ⟨g, 2, none⟩ u) g x0 x1 u x3 x4 := by
  obtain ⟨T, h⟩ := h; exact ⟨T, by rw [heap_setCell_same w g 2 _ T u h]; rfl⟩
theorem Box5.set3 (h : Box5 w g x0 x1 x2 x3 x4) (u : Value) : Box5 (w.setCell ⟨g, 3, none⟩ u) g x0 x1 x2 u x4 := by
  obtain ⟨T, h⟩ := h; exact ⟨T, by rw [heap_setCell_same w g 3 _ T u h]; rfl⟩
theorem Box5.set4 (h : Box5 w g x0 x1 x2 x3 x4) (u : Value) : Box5 (w.setCell ⟨g, 4, none⟩ u) g x0 x1 x2 x3 u := by
  obtain ⟨T, h⟩ := h; exact ⟨T, by rw [heap_setCell_same w g 4 _ T u h]; rfl⟩
theorem Box5.store (h : Box5 w g x0 x1 x2 x3 x4) (y0 y1 y2 y3 y4 : Value) : Box5 (((((w.setCell ⟨g, 0, none⟩ y0).setCell ⟨g, 1, none⟩ y1).setCell ⟨g, 2, none⟩ y2).setCell ⟨g, 3, none⟩ y3).setCell ⟨g, 4, none⟩ y4) g y0 y1 y2 y3 y4 :=
  ((((h.set0 y0).set1 y1).set2 y2).set3 y3).set4 y4
end
/-- A row of texts. -/
def TxA (w : World) (ok : Nat → Prop) (ao : Option Addr) (m cap : Nat) (A : List (List Nat)) : Prop := ∃ vs, SlF w ok 1 ao m cap vs ∧ AllV (TxQ w ok) A vs
theorem TxA.move {w w' : World} {ok ok' : Nat → Prop} {ao : Option Addr} {m cap : Nat} {A : List (List Nat)} (h : TxA w ok ao m cap A) (hs : Same w w' ok ok') : TxA w' ok' ao m cap A := by
  obtain ⟨vs, h1, h2⟩ := h
  exact ⟨vs, h1.move hs, h2.imp fun a v h => txq_move h hs⟩
theorem txa_nil (w : World) (ok : Nat → Prop) : TxA w ok none 0 0 [] := ⟨[], ⟨rfl, Nat.le_refl _, by unfold maxLen; omega, .inl rfl⟩, trivial⟩
/-- A procedure's value. -/
def PrV (w : World) (ok : Nat → Prop) (p : Pr) (v : Value) : Prop := ∃ ap mp cp av mv cv ab mb cb, v = .agg #[.string (str p.name), .slice ap mp cp, .string (str p.result), .slice av mv cv, .slice ab mb cb] ∧ TxA w ok ap mp cp p.params ∧ TxA w ok av mv cv p.vars ∧ SsF w ok ab mb cb p.body
theorem PrV.move {w w' : World} {ok ok' : Nat → Prop} {p : Pr} {v : Value} (h : PrV w ok p v) (hs : Same w w' ok ok') : PrV w' ok' p v := by
  obtain ⟨ap, mp, cp, av, mv, cv, ab, mb, cb, e, h1, h2, h3⟩ := h
  exact ⟨ap, mp, cp, av, mv, cv, ab, mb, cb, e, h1.move hs, h2.move hs, h3.move hs⟩
theorem prout_close {w w3 wf : World} {N gR gt cap j d : Nat} {T : List Tk} {p : Pr} {v : Value} (hmid : Mid w.heap.size N w3 wf) (hr : RS w3 gR gt cap T j d) (hR : gR < w.heap.size) (hg : w.grownBy w3 (some gR)) (hN : w.heap.size ≤ N) (hs : PrV w3 (fun b => N ≤ b) p v) :
    ROut w gR gt cap T d (fun ok w' p v => PrV w' ok p v) (.ok p j) (.returned v) wf := by
  obtain ⟨h1, h2⟩ := hmid.close hr hR hg
  exact ⟨⟨v, rfl, hs.move (hmid.same hN)⟩, h1, h2⟩
section
variable {T : List Tk}
theorem varsM_fine (ok : Tks.Ok T) : ∀ (m : Nat) (l : List (List Nat)) {i : Nat}, i < T.length → FineR0 T i (varsM (tks T) m l i)
  | 0, l, i, hi => ⟨Nat.le_refl _, hi⟩
  | m + 1, l, i, hi => by
    unfold varsM
    split
    · rename_i h
      have hm := ok.more hi (by rw [h]; simp)
      exact fine_weak (fine_up (bind_fine (name_fine ok hm) fun x j _ hj => bind_fine0 (fine_weak (take_fine ok (by simp) () hj)) fun _ k _ hk => varsM_fine ok m _ hk))
    · exact ⟨Nat.le_refl _, hi⟩
theorem res_fine (ok : Tks.Ok T) {i : Nat} (hi : i < T.length) : FineR0 T i (resR (tks T) i) := by
  unfold resR
  split
  · rename_i h
    exact fine_weak (fine_up (name_fine ok (ok.more hi (by rw [h]; simp))))
  · exact ⟨Nat.le_refl _, hi⟩
theorem proc_fine (ok : Tks.Ok T) (F : Nat) {i : Nat} (hi : i < T.length) : FineR T i (procR (tks T) F i) :=
  bind_fine (take_fine ok (by simp) () hi) fun _ i1 _ h1 => bind_fine0 (fine_weak (name_fine ok h1)) fun x i2 _ h2 => bind_fine0 (fine_weak (list_fine ok F (fun i hi => name_fine ok hi) h2)) fun ps i3 _ h3 => bind_fine0 (res_fine ok h3) fun r i4 _ h4 =>
  bind_fine0 (fine_weak (take_fine ok (by simp) () h4)) fun _ i5 _ h5 => bind_fine0 (varsM_fine ok F [] h5) fun vs i6 _ h6 => bind_fine0 (fine_weak (stmtsM_fine ok (fun i hi => st_fine ok F F 0 hi) F [] h6)) fun b i7 _ h7 => ok_fine0 h7
end
theorem res_proc {W : World} {g : Nat} {y0 y1 y2 y3 y4 : Value} (tmps : Array Value) (hg : tmps[2]? = some (.pointer (some ⟨g, 0, none⟩))) (h : Box5 W g y0 y1 y2 y3 y4) : (results Tryd.f18 tmps).run Tryd.prog W = .ok (.agg #[y0, y1, y2, y3, y4]) W := by
  obtain ⟨c0, c1, c2, c3, c4⟩ := h.c
  simp [results, Tryd.results18, go_sem, hg, c0, c1, c2, c3, c4]
theorem plist_names {T : List Tk} (ok : Tks.Ok T) {F d : Nat} (hF : T.length ≤ F) (hd : d ≤ 50) (w : World) (gR gt cap i : Nat) (h : RS w gR gt cap T i d) (hi : i < T.length) :
    Calls Tryd.prog 27 #[.pointer (some ⟨gR, 0, none⟩), .func (.func 26) #[.pointer (some ⟨gR, 0, none⟩)] #[]] w (ROut w gR gt cap T d (fun ok w' A v => ∃ ao m cap, v = .slice ao m cap ∧ TxA w' ok ao m cap A) (listR (tks T) F (nameR (tks T)) i)) :=
  plisted_tx ok hF hd (fun i hi => name_fine ok hi) w gR gt cap i h hi (fun W j hh hj => pname_out ok hh hj)

/-- A text is appended to the variables of the procedure in the box at b3, as a step of a region; it lies in a new block. -/
theorem step_text {ops : Array Oper} {o : Oper} {ac : Act} {W : World} {K : Act → World → Prop} {Q : Exit → Act → World → Prop} {E : Prop} {b2 b3 H gR gt cap j d : Nat} {T : List Tk} {x0 x1 x2 x4 y0 y1 y2 y3 y4 : Value} {av : Option Addr} {mv cv : Nat} {A : List (List Nat)} {vs : List (List Value)} {a : List Nat}
    (hgd : o.guard = none) (s x : Operand) (hop : o.op = Op.call { callee := Callee.builtin Builtin.append, args := #[s, x], argTypes := #[33, 33] })
    (hb3 : Box5 W b3 x0 x1 x2 (.slice av mv cv) x4) (hb2 : Box5 W b2 y0 y1 y2 y3 y4) (ho : OwnV W H 9 1 (.slice av mv cv) vs) (hal : AllV (TxQ W (fun _ => True)) A vs) (hr : RS W gR gt cap T j d) (hl : vs.length ≤ 8200) (h3 : b3 < H) (h2 : b2 < H) (hR : gR < H)
    (hs : ac.eval s = .slice av mv cv) (hx : ac.eval x = .slice (some ⟨W.heap.size, 0, none⟩) 1 1) (hHW : H ≤ W.heap.size)
    (hK : ∀ g m' c' w', Box5 w' b3 x0 x1 x2 (.slice av mv cv) x4 → Box5 w' b2 y0 y1 y2 y3 y4 → OwnV w' H 9 1 (.slice (some ⟨g, 0, none⟩) m' c') (vs ++ [txC a]) → RS w' gR gt cap T j d → W.heap.size ≤ w'.heap.size → (∀ b, b < H → w'.heap[b]? = W.heap[b]?) → w'.os = W.os ∧ w'.tape = W.tape ∧ w'.output = W.output → K (ac.put o.dst (.slice (some ⟨g, 0, none⟩) m' c')) w') :
    if Region.wanted o (yielded ops ac.tmps) = true then Oper.wp Tryd.prog o ac (W.alloc (.cells #[.string (str a)] 9)) K Q else E := by
  have hW : Below W.heap.size W (W.alloc (.cells #[.string (str a)] 9)) := (Below.refl _ _).alloc (Nat.le_refl _) _
  have hOL : ∀ g, (Value.slice av mv cv).ownBlock = some g → H ≤ g ∧ g < W.heap.size := fun g e => World.ownsRow.lt ho g e
  have hz3 := hb3.lt
  have hz2 := hb2.lt
  have hzR := hr.box.lt
  have hlt := hr.lt
  refine step_append_v 33 9 1 16 _ Tryd.underlying33 Tryd.info_tx rfl (by decide) (by decide) hgd s x hop H _ vs hs (ho.below hW) W.heap.size 1 (txC a) hx rfl ?_ (by intro u hu; simp [txC] at hu; subst hu; rfl) (by omega) (by simp; omega) ?_
  · intro c u hu
    have e' := cell_of_row (W.alloc (.cells #[.string (str a)] 9)) W.heap.size c #[.string (str a)] _ _ (heap_alloc_new W _)
    rw [Nat.zero_add, e', ← hu]
    simp [txC]
  · intro v3 w3 hown3 hg3
    obtain ⟨g, m', c', rfl⟩ : ∃ g m' c', v3 = .slice (some ⟨g, 0, none⟩) m' c' := by
      rcases hown3.2 with ⟨_, h0⟩ | ⟨g, cap, cur, rfl, -⟩
      · simp at h0
      · exact ⟨g, _, cap, rfl⟩
    have hlow : ∀ b, b < H → w3.heap[b]? = W.heap[b]? := fun b hb => (hg3.block b (by have := hW.size; omega) (fun e => by have := hOL _ e.symm; omega)).trans (hW.block b (by omega))
    exact hK g m' c' w3 (hb3.at (hlow b3 h3)) (hb2.at (hlow b2 h2)) hown3 (hr.at (hlow gt (by omega)) (hr.box.at (hlow gR hR))) (Nat.le_trans hW.size hg3.size) hlow ⟨hg3.os.trans hW.os, hg3.tape.trans hW.tape, hg3.output.trans hW.output⟩
end Go.Proofs.YtjofhaakkleecaaDoor
