/-
  Rows of values of some cells each that grow; the reader's box and what it stands on.
-/
import Derived.Test.YtjofhaakkleecaaDoorQ0
import Derived.Test.YtjofhaakkleecaaDoorJ7
import Derived.Lib.SmallJoins
namespace Go.Proofs.YtjofhaakkleecaaDoor
open Go.RowKit Lx
set_option linter.unusedSimpArgs false
set_option linter.unusedVariables false
set_option maxRecDepth 100000

/-- A row of one's own, of values of n cells each. -/
def OwnV (w : World) (base : Nat) (e : TypeId) (n : Nat) (v : Value) (L : List (List Value)) : Prop := w.ownsRow base e n v L.length L.flatten
theorem ownV_nil (w : World) (base : Nat) (e : TypeId) (n : Nat) : OwnV w base e n (.slice none 0 0) [] := World.ownsRow_nil _ _ _ _
theorem OwnV.kept {w w' : World} {base n : Nat} {e : TypeId} {v : Value} {L : List (List Value)} {row : Option Nat} (h : OwnV w base e n v L) (hg : w.grownBy w' row) (hne : ∀ g, row = some g → g < base) : OwnV w' base e n v L := by
  refine World.ownsRow.kept h hg ?_
  cases hv : v.ownBlock with
  | none => exact .inl rfl
  | some g =>
    refine .inr ?_
    intro e
    have := hne g e.symm
    have := (World.ownsRow.lt h g hv).1
    omega
/-- .. as far as the blocks from base on stay. -/
theorem OwnV.same {w w' : World} {base n : Nat} {e : TypeId} {v : Value} {L : List (List Value)} (h : OwnV w base e n v L) (hs : ∀ b, base ≤ b → b < w.heap.size → w'.heap[b]? = w.heap[b]?) : OwnV w' base e n v L := by
  refine ⟨h.1, ?_⟩
  rcases h.2 with h1 | ⟨g, cap, cur, h1, hbg, h2, h3⟩
  · exact .inl h1
  · exact .inr ⟨g, cap, cur, h1, hbg, (hs g hbg (Array.getElem?_eq_some_iff.1 h2).1).trans h2, h3⟩
theorem OwnV.below {w w' : World} {base n : Nat} {e : TypeId} {v : Value} {L : List (List Value)} (h : OwnV w base e n v L) (hb : Below w.heap.size w w') : OwnV w' base e n v L := h.same fun b _ hl => hb.block b hl
theorem OwnV.low {w : World} {base base' n : Nat} {e : TypeId} {v : Value} {L : List (List Value)} (h : OwnV w base e n v L) (hb : base' ≤ base) : OwnV w base' e n v L := by
  refine ⟨h.1, ?_⟩
  rcases h.2 with ⟨h1, h2⟩ | ⟨g, cap, cur, h1, hbg, h2⟩
  · exact .inl ⟨h1, h2⟩
  · exact .inr ⟨g, cap, cur, h1, Nat.le_trans hb hbg, h2⟩
theorem flatten_get {α : Type} {n : Nat} : ∀ (L : List (List α)), (∀ l ∈ L, l.length = n) → ∀ j (hj : j < L.length) c, c < n → L.flatten[j * n + c]? = L[j][c]?
  | [], _, j, hj, c, _ => by simp at hj
  | l :: L, h, 0, hj, c, hc => by
    have := h l (List.Mem.head _)
    simp only [List.flatten_cons, Nat.zero_mul, Nat.zero_add, List.getElem_cons_zero]
    rw [List.getElem?_append_left (by omega)]
  | l :: L, h, j + 1, hj, c, hc => by
    have hl := h l (List.Mem.head _)
    have ih := flatten_get L (fun l' h' => h l' (List.Mem.tail _ h')) j (by simp at hj; omega) c hc
    simp only [List.flatten_cons, List.getElem_cons_succ]
    rw [List.getElem?_append_right (by rw [hl, Nat.add_mul]; omega), hl, ← ih]
    congr 1
    rw [Nat.add_mul]; omega
/-- What stands at a block's places. -/
def CellsAt (w : World) (g o : Nat) (l : List Value) : Prop := ∀ c u, l[c]? = some u → w.cell? ⟨g, o + c, none⟩ = some u
theorem OwnV.shape {w : World} {base n : Nat} {e : TypeId} {v : Value} {L : List (List Value)} (h : OwnV w base e n v L) (hL : ∀ l ∈ L, l.length = n) : ∃ ao cap, v = .slice ao L.length cap ∧ L.length ≤ cap ∧ cap ≤ maxLen ∧ (L.length = 0 ∨ ∃ g, ao = some ⟨g, 0, none⟩ ∧ base ≤ g ∧ g < w.heap.size ∧ ∀ j (hj : j < L.length), CellsAt w g (j * n) L[j]) := by
  rcases h.2 with ⟨rfl, h0⟩ | ⟨g, cap, cur, rfl, hbg, hg, hnc, hcm, hcs, htake⟩
  · exact ⟨none, 0, by rw [h0], by omega, by unfold maxLen; omega, .inl h0⟩
  · refine ⟨_, cap, rfl, hnc, hcm, .inr ⟨g, rfl, hbg, (Array.getElem?_eq_some_iff.1 hg).1, fun j hj c u hu => ?_⟩⟩
    have hl := hL L[j] (List.getElem_mem hj)
    have hc : c < n := by
      have := (List.getElem?_eq_some_iff.1 hu).1
      omega
    have hf := flatten_get L hL j hj c hc
    have hlt : j * n + c < L.length * n := by
      have h1 : (j + 1) * n ≤ L.length * n := Nat.mul_le_mul_right n hj
      rw [Nat.add_mul] at h1
      omega
    exact ((World.ownsRow.cellAt h (j * n + c) hlt).trans hf).trans hu

/-- One value is appended. -/
theorem wpList_append_v {ops : Array Oper} {rest : List Oper} {o : Oper} {ac : Act} {w : World} {Q : Exit → Act → World → Prop}
    (ST e : TypeId) (n bs : Nat) (z : Value) (hu : Tryd.prog.underlying ST = some (.slice e)) (hinfo : (Tryd.prog.info? e).map (fun i => (i.zero, i.size, i.bytes)) = some (some z, n, bs)) (hzc : z.cells.size = n) (hn : 0 < n) (hbs : bs ≤ 200)
    (hgd : o.guard = none) (s x : Operand) (hop : o.op = Op.call { callee := Callee.builtin Builtin.append, args := #[s, x], argTypes := #[ST, ST] })
    (base : Nat) (v : Value) (L : List (List Value)) (hs : ac.eval s = v) (hown : OwnV w base e n v L) (b c : Nat) (cs : List Value) (hx : ac.eval x = .slice (some ⟨b, 0, none⟩) 1 c) (hcs : cs.length = n) (hnews : CellsAt w b 0 cs) (h1 : ∀ u ∈ cs, u.oneCell' = true) (hk : L.length ≤ 1000000) (hbase : base ≤ w.heap.size)
    (hK : ∀ v' w', OwnV w' base e n v' (L ++ [cs]) → w.grownBy w' v.ownBlock → wpList Tryd.prog ops Q rest (ac.put o.dst v') w') : wpList Tryd.prog ops Q (o :: rest) ac w := by
  obtain ⟨i0, hi, hz0, hz1, hz2⟩ := info_parts hinfo
  obtain ⟨v', w', hr, h1, h2, -⟩ := run_append_own (P := Tryd.prog) w base ST o.type e i0 z n bs hu hi hz0 hz1 hz2 hzc hn v L.length L.flatten hown ⟨b, 0, none⟩ 1 c cs (by rw [hcs, Nat.one_mul]) (by
    intro j u hj
    have h2 := hnews j u hj
    rw [Nat.zero_add] at h2
    by_cases h0 : j = 0
    · subst h0; simpa [Addr.add] using h2
    · simpa [Addr.add, h0] using h2) h1 (by unfold maxLen; omega) (by have : (L.length + 1) * bs ≤ 1000001 * 200 := Nat.mul_le_mul (by omega) hbs; omega) hbase
  have hO : OwnV w' base e n v' (L ++ [cs]) := by
    unfold OwnV
    rw [List.flatten_append, List.length_append]
    simpa using h1
  refine wpList_plain hgd fun K hK' => ?_
  unfold Oper.wp
  simp [execOp, hop, resolve, invoke, builtin, hs, hx, hr, Result.andThen]
  exact hK' _ _ (hK v' w' hO h2)

/-- .. as a step of a region. -/
theorem step_append_v {ops : Array Oper} {o : Oper} {ac : Act} {w : World} {K : Act → World → Prop} {Q : Exit → Act → World → Prop} {E : Prop}
    (ST e : TypeId) (n bs : Nat) (z : Value) (hu : Tryd.prog.underlying ST = some (.slice e)) (hinfo : (Tryd.prog.info? e).map (fun i => (i.zero, i.size, i.bytes)) = some (some z, n, bs)) (hzc : z.cells.size = n) (hn : 0 < n) (hbs : bs ≤ 200)
    (hgd : o.guard = none) (s x : Operand) (hop : o.op = Op.call { callee := Callee.builtin Builtin.append, args := #[s, x], argTypes := #[ST, ST] })
    (base : Nat) (v : Value) (L : List (List Value)) (hs : ac.eval s = v) (hown : OwnV w base e n v L) (b c : Nat) (cs : List Value) (hx : ac.eval x = .slice (some ⟨b, 0, none⟩) 1 c) (hcs : cs.length = n) (hnews : CellsAt w b 0 cs) (h1 : ∀ u ∈ cs, u.oneCell' = true) (hk : L.length ≤ 1000000) (hbase : base ≤ w.heap.size)
    (hK : ∀ v' w', OwnV w' base e n v' (L ++ [cs]) → w.grownBy w' v.ownBlock → K (ac.put o.dst v') w') :
    if Region.wanted o (yielded ops ac.tmps) = true then Oper.wp Tryd.prog o ac w K Q else E := by
  have hw : Region.wanted o (yielded ops ac.tmps) = true := by simp [Region.wanted, hgd]
  rw [if_pos hw]
  obtain ⟨i0, hi, hz0, hz1, hz2⟩ := info_parts hinfo
  obtain ⟨v', w', hr, h1, h2, -⟩ := run_append_own (P := Tryd.prog) w base ST o.type e i0 z n bs hu hi hz0 hz1 hz2 hzc hn v L.length L.flatten hown ⟨b, 0, none⟩ 1 c cs (by rw [hcs, Nat.one_mul]) (by
    intro j u hj
    have h2 := hnews j u hj
    rw [Nat.zero_add] at h2
    by_cases h0 : j = 0
    · subst h0; simpa [Addr.add] using h2
    · simpa [Addr.add, h0] using h2) h1 (by unfold maxLen; omega) (by have : (L.length + 1) * bs ≤ 1000001 * 200 := Nat.mul_le_mul (by omega) hbs; omega) hbase
  have hO : OwnV w' base e n v' (L ++ [cs]) := by
    unfold OwnV
    rw [List.flatten_append, List.length_append]
    simpa using h1
  unfold Oper.wp
  simp [execOp, hop, resolve, invoke, builtin, hs, hx, hr, Result.andThen]
  exact hK v' w' hO h2

@[go_sem] theorem field_tk1 (w : World) (a b c : Value) : Sem.run Tryd.prog (Instr.field 35 (.agg #[a, b, c]) 1) w = .ok b w := by
  simp [Instr.field, go_sem, part, asAgg, isAgg]
@[go_sem] theorem field_tk0 (w : World) (a b c : Value) : Sem.run Tryd.prog (Instr.field 35 (.agg #[a, b, c]) 0) w = .ok a w := by
  simp [Instr.field, go_sem, part, asAgg, isAgg]
@[go_sem] theorem field_tk2 (w : World) (a b c : Value) : Sem.run Tryd.prog (Instr.field 35 (.agg #[a, b, c]) 2) w = .ok c w := by
  simp [Instr.field, go_sem, part, asAgg, isAgg]

/-- A block of three cells, of two. -/
def Box3 (w : World) (g : Nat) (x y z : Value) : Prop := ∃ T, w.heap[g]? = some (.cells #[x, y, z] T (0, 0))
def Box2 (w : World) (g : Nat) (x y : Value) : Prop := ∃ T, w.heap[g]? = some (.cells #[x, y] T (0, 0))
section
variable {w w' : World} {g : Nat} {x y z : Value}
theorem Box3.lt (h : Box3 w g x y z) : g < w.heap.size := by
  obtain ⟨T, h⟩ := h
  exact (Array.getElem?_eq_some_iff.1 h).1
theorem Box3.c (h : Box3 w g x y z) : w.cell? ⟨g, 0, none⟩ = some x ∧ w.cell? ⟨g, 1, none⟩ = some y ∧ w.cell? ⟨g, 2, none⟩ = some z := by
  obtain ⟨T, h⟩ := h
  refine ⟨?_, ?_, ?_⟩
  · rw [cell_of_row w g 0 #[x, y, z] _ _ h]; rfl
  · rw [cell_of_row w g 1 #[x, y, z] _ _ h]; rfl
  · rw [cell_of_row w g 2 #[x, y, z] _ _ h]; rfl
theorem Box3.f (h : Box3 w g x y z) (i : Nat) : w.frozen? ⟨g, i, none⟩ = false := by
  obtain ⟨T, h⟩ := h
  exact frozen_of_row w g i #[x, y, z] _ h
theorem Box3.at (h : Box3 w g x y z) (hs : w'.heap[g]? = w.heap[g]?) : Box3 w' g x y z := by
  obtain ⟨T, h⟩ := h
  exact ⟨T, hs.trans h⟩
theorem Box3.new (w : World) (x y z : Value) (T : TypeId) : Box3 (w.alloc (.cells #[x, y, z] T)) w.heap.size x y z := ⟨T, heap_alloc_new w _⟩
theorem Box3.set1 (h : Box3 w g x y z) (u : Value) : Box3 (w.setCell ⟨g, 1, none⟩ u) g x u z := by
  obtain ⟨T, h⟩ := h
  refine ⟨T, ?_⟩
  rw [heap_setCell_same w g 1 #[x, y, z] T u h]
  rfl
theorem Box3.set2 (h : Box3 w g x y z) (u : Value) : Box3 (w.setCell ⟨g, 2, none⟩ u) g x y u := by
  obtain ⟨T, h⟩ := h
  refine ⟨T, ?_⟩
  rw [heap_setCell_same w g 2 #[x, y, z] T u h]
  rfl
theorem Box2.lt (h : Box2 w g x y) : g < w.heap.size := by
  obtain ⟨T, h⟩ := h
  exact (Array.getElem?_eq_some_iff.1 h).1
theorem Box2.c (h : Box2 w g x y) : w.cell? ⟨g, 0, none⟩ = some x ∧ w.cell? ⟨g, 1, none⟩ = some y := by
  obtain ⟨T, h⟩ := h
  refine ⟨?_, ?_⟩
  · rw [cell_of_row w g 0 #[x, y] _ _ h]; rfl
  · rw [cell_of_row w g 1 #[x, y] _ _ h]; rfl
theorem Box2.f (h : Box2 w g x y) (i : Nat) : w.frozen? ⟨g, i, none⟩ = false := by
  obtain ⟨T, h⟩ := h
  exact frozen_of_row w g i #[x, y] _ h
theorem Box2.at (h : Box2 w g x y) (hs : w'.heap[g]? = w.heap[g]?) : Box2 w' g x y := by
  obtain ⟨T, h⟩ := h
  exact ⟨T, hs.trans h⟩
theorem Box2.new (w : World) (x y : Value) (T : TypeId) : Box2 (w.alloc (.cells #[x, y] T)) w.heap.size x y := ⟨T, heap_alloc_new w _⟩
theorem Box2.set1 (h : Box2 w g x y) (u : Value) : Box2 (w.setCell ⟨g, 1, none⟩ u) g x u := by
  obtain ⟨T, h⟩ := h
  refine ⟨T, ?_⟩
  rw [heap_setCell_same w g 1 #[x, y] T u h]
  rfl
end

/-- Nothing beneath the block B has turned but, maybe, the block g. -/
structure Kx (B g : Nat) (w w' : World) : Prop where
  os : w'.os = w.os
  tape : w'.tape = w.tape
  output : w'.output = w.output
  size : w.heap.size ≤ w'.heap.size
  block : ∀ k, k < B → k ≠ g → w'.heap[k]? = w.heap[k]?
section
variable {B g : Nat} {w w1 w2 : World}
theorem Kx.refl (B g : Nat) (w : World) : Kx B g w w := ⟨rfl, rfl, rfl, Nat.le_refl _, fun _ _ _ => rfl⟩
theorem Kx.trans (h : Kx B g w w1) (k : Kx B g w1 w2) : Kx B g w w2 := ⟨k.os.trans h.os, k.tape.trans h.tape, k.output.trans h.output, Nat.le_trans h.size k.size, fun i hi hne => (k.block i hi hne).trans (h.block i hi hne)⟩
theorem Kx.alloc (h : Kx B g w w1) (hB : B ≤ w1.heap.size) (o : Obj) : Kx B g w (w1.alloc o) := ⟨h.os, h.tape, h.output, by simp; have := h.size; omega, fun k hk hne => (Below.heap_alloc w1 o k (Nat.lt_of_lt_of_le hk hB)).trans (h.block k hk hne)⟩
theorem Kx.drew (h : Kx B g w w1) : Kx B g w w1.drew := ⟨h.os, h.tape, h.output, h.size, h.block⟩
theorem Kx.set (h : Kx B g w w1) {a : Addr} (ha : a.block = g ∨ B ≤ a.block) (u : Value) : Kx B g w (w1.setCell a u) := ⟨h.os, h.tape, h.output, by simpa [World.setCell] using h.size, fun k hk hne => (Below.heap_setCell w1 a u k (by rcases ha with ha | ha <;> omega)).trans (h.block k hk hne)⟩
theorem Kx.grown {row : Option Nat} (h : Kx B g w w1) (k : w1.grownBy w2 row) (hB : B ≤ w1.heap.size) (hr : ∀ b, row = some b → b = g ∨ B ≤ b) : Kx B g w w2 :=
  ⟨k.os.trans h.os, k.tape.trans h.tape, k.output.trans h.output, Nat.le_trans h.size k.size, fun i hi hne => (k.block i (Nat.lt_of_lt_of_le hi hB) (by intro e; rcases hr i e.symm with h | h <;> omega)).trans (h.block i hi hne)⟩
theorem Kx.below (h : Kx B g w w1) (k : Below w1.heap.size w1 w2) (hB : B ≤ w1.heap.size) : Kx B g w w2 :=
  ⟨k.os.trans h.os, k.tape.trans h.tape, k.output.trans h.output, Nat.le_trans h.size k.size, fun i hi hne => (k.block i (Nat.lt_of_lt_of_le hi hB)).trans (h.block i hi hne)⟩
theorem Kx.mono {B' : Nat} (h : Kx B g w w1) (hB : B' ≤ B) : Kx B' g w w1 := ⟨h.os, h.tape, h.output, h.size, fun k hk hne => h.block k (by omega) hne⟩
theorem Kx.grownBy (h : Kx B g w w1) (hB : w.heap.size ≤ B) : w.grownBy w1 (some g) := ⟨h.os, h.tape, h.output, h.size, fun k hk hne => h.block k (by omega) (by intro e; exact hne (by rw [e]))⟩
end
theorem kx_of_grown {g : Nat} {w w1 : World} (h : w.grownBy w1 (some g)) : Kx w.heap.size g w w1 := ⟨h.os, h.tape, h.output, h.size, fun k hk hne => h.block k hk (by simpa using hne)⟩

/-- The reader in its box at gR: the tokens T in the block gt, the next one's place i, so many open. -/
structure RS (w : World) (gR gt cap : Nat) (T : List Tk) (i d : Nat) : Prop where
  box : Box3 w gR (.slice (some ⟨gt, 0, none⟩) T.length cap) (.int .i64 (i : Int)) (.int .i64 (d : Int))
  toks : ∀ j (hj : j < T.length), At3 w gt (j * 3) T[j]
  lt : gt < gR
  cap : T.length ≤ cap ∧ cap ≤ maxLen
  len : T.length ≤ 8200
/-- The tokens: the last one is the end, of no text; names, numbers have no key word's, no sign's text. -/
structure Tks.Ok (T : List Tk) : Prop where
  pos : 0 < T.length
  last : ∀ j (hj : j < T.length), T[j].t = [] → j + 1 = T.length
  name : ∀ j (hj : j < T.length), T[j].k = 1 ∨ T[j].k = 2 → T[j].t ≠ []
  fin : ∀ j (hj : j < T.length), j + 1 = T.length → T[j].k = 0 ∧ T[j].t = []
  zero : ∀ j (hj : j < T.length), T[j].k = 0 → j + 1 = T.length
  num : ∀ j (hj : j < T.length), T[j].k = 2 → T[j].t.length ≤ 9 ∧ ∀ c ∈ T[j].t, 48 ≤ c ∧ c ≤ 57
  small : ∀ j (hj : j < T.length), ∀ c ∈ T[j].t, c < 256
  kind : ∀ j (hj : j < T.length), T[j].k ≤ 4
/-- The tokens by their places. -/
def tks (T : List Tk) : Tks := fun j => T.getD j ⟨0, [], 0⟩
theorem tks_get {T : List Tk} {j : Nat} (h : j < T.length) : tks T j = T[j] := by simp [tks, List.getD_eq_getElem?_getD, h]
theorem RS.at {w w' : World} {gR gt cap : Nat} {T : List Tk} {i d i' d' : Nat} (h : RS w gR gt cap T i d) (hs : w'.heap[gt]? = w.heap[gt]?) (hb : Box3 w' gR (.slice (some ⟨gt, 0, none⟩) T.length cap) (.int .i64 (i' : Int)) (.int .i64 (d' : Int))) : RS w' gR gt cap T i' d' := by
  refine ⟨hb, fun j hj => ?_, h.lt, h.cap, h.len⟩
  obtain ⟨t0, t1, t2⟩ := h.toks j hj
  exact ⟨(World.cell?_of_block (a := ⟨gt, j * 3, none⟩) hs).trans t0, (World.cell?_of_block (a := ⟨gt, j * 3 + 1, none⟩) hs).trans t1, (World.cell?_of_block (a := ⟨gt, j * 3 + 2, none⟩) hs).trans t2⟩
theorem RS.below {w w' : World} {gR gt cap : Nat} {T : List Tk} {i d : Nat} (h : RS w gR gt cap T i d) (hb : Below w.heap.size w w') : RS w' gR gt cap T i d :=
  h.at (hb.block gt (Nat.lt_trans h.lt h.box.lt)) (h.box.at (hb.block gR h.box.lt))
/-- What the reader gives up with. -/
def Gone (T : List Tk) (x j : Nat) (e : Ending) : Prop := e = .panicked [{ v := .iface 53 (.agg #[.int .i64 (x : Int), .int .i64 ((tks T j).p : Int)]), recovered := false }]

end Go.Proofs.YtjofhaakkleecaaDoor
