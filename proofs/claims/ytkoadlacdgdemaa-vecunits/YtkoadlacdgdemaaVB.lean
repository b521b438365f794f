/-
  Walks: the document's Dot.
  Rows of quotients that grow: append.
  Walks: the document's Plus; whether two rows are one.
  Walks: whether two rows are one; the refusals; what is known from call to call, of the document's.
-/
import Derived.Test.YtkoadlacdgdemaaVA

namespace Go.Proofs.Ytkoadlacdgdemaa
open Go.RowKit Lm
set_option linter.unusedSimpArgs false
set_option linter.unusedVariables false
set_option maxRecDepth 100000

@[go_sem] theorem field_P (w : World) (a b c d : Value) : Sem.run Try.prog (Instr.field 37 (.agg #[a, b, c, d]) 0) w = .ok (.agg #[a, b]) w := by
  simp [Instr.field, go_sem, part, asAgg, isAgg]

theorem ris_zero {W : World} {n1 n2 : Bool} {a1 a2 : Option Addr} {k1 c1 k2 c2 n : Nat} {r : Rat} (h : RIs W 0 (.agg #[.bool n1, .slice a1 k1 c1, .bool n2, .slice a2 k2 c2]) n r) : (k1 = 0 ↔ r = 0) ∧ k1 ≤ 9223372036854775807 := by
  obtain ⟨n1', a1', k1', c1', n2', a2', k2', c2', e, i1, i2⟩ := h
  simp only [Value.agg.injEq, Array.mk.injEq, List.cons.injEq, Value.bool.injEq, Value.slice.injEq, and_true] at e
  obtain ⟨rfl, ⟨rfl, rfl, rfl⟩, rfl, rfl, rfl, rfl⟩ := e
  obtain ⟨h1, -, -, h2⟩ := is_sign i1
  exact ⟨h1.trans Rat.num_eq_zero, h2⟩

/-- What stands at the head of a round. -/
def DotRel (w : World) (gs n k : Nat) (A B : List Rat) (iv : Value) (wr : World) : Prop :=
  ∃ (i : Nat) (n1 : Bool) (a1 : Option Addr) (k1 c1 : Nat) (n2 : Bool) (a2 : Option Addr) (k2 c2 : Nat), i ≤ k ∧ iv = .int .i64 i ∧ Box4 wr gs (.bool n1) (.slice a1 k1 c1) (.bool n2) (.slice a2 k2 c2) ∧ RIs wr 0 (.agg #[.bool n1, .slice a1 k1 c1, .bool n2, .slice a2 k2 c2]) (n * i + 1) (dotR (A.take i) (B.take i)) ∧ Box4 wr w.heap.size (.bool false) (.slice none 0 0) (.bool false) (.slice none 0 0) ∧ Below w.heap.size w wr

end Go.Proofs.Ytkoadlacdgdemaa

namespace Go.Proofs.Ytkoadlacdgdemaa
open Go.RowKit Lm
set_option linter.unusedSimpArgs false
set_option linter.unusedVariables false
set_option maxRecDepth 100000

/-- A quotient's value, cell by cell. -/
structure QV where
  n1 : Bool
  a1 : Option Addr
  k1 : Nat
  c1 : Nat
  n2 : Bool
  a2 : Option Addr
  k2 : Nat
  c2 : Nat
def QV.v (q : QV) : Value := .agg #[.bool q.n1, .slice q.a1 q.k1 q.c1, .bool q.n2, .slice q.a2 q.k2 q.c2]
def QV.cs (q : QV) : List Value := [.bool q.n1, .slice q.a1 q.k1 q.c1, .bool q.n2, .slice q.a2 q.k2 q.c2]
def flat : List QV → List Value
  | [] => []
  | q :: L => q.cs ++ flat L
theorem flat_len (L : List QV) : (flat L).length = L.length * 4 := by
  induction L with
  | nil => rfl
  | cons q L ih => simp [flat, QV.cs, ih]; omega
theorem flat_app (L M : List QV) : flat (L ++ M) = flat L ++ flat M := by
  induction L with
  | nil => rfl
  | cons q L ih => simp [flat, ih]
theorem flat_get (L : List QV) (j : Nat) (h : j < L.length) : (flat L)[j * 4]? = some (.bool L[j].n1) ∧ (flat L)[j * 4 + 1]? = some (.slice L[j].a1 L[j].k1 L[j].c1) ∧ (flat L)[j * 4 + 2]? = some (.bool L[j].n2) ∧ (flat L)[j * 4 + 3]? = some (.slice L[j].a2 L[j].k2 L[j].c2) := by
  induction L generalizing j with
  | nil => simp at h
  | cons q L ih =>
    cases j with
    | zero => simp [flat, QV.cs]
    | succ j =>
      simp at h
      obtain ⟨t0, t1, t2, t3⟩ := ih j h
      have hl : q.cs.length = 4 := rfl
      have key : ∀ c, (q.cs ++ flat L)[(j + 1) * 4 + c]? = (flat L)[j * 4 + c]? := fun c => by
        rw [List.getElem?_append_right (by omega), hl, show (j + 1) * 4 + c - 4 = j * 4 + c by omega]
      exact ⟨(key 0).trans t0, (key 1).trans t1, (key 2).trans t2, (key 3).trans t3⟩
theorem flat_no (L : List QV) : ∀ u ∈ flat L, ∀ z, u ≠ .int .u32 z := by
  induction L with
  | nil => simp [flat]
  | cons q L ih =>
    intro u hu z
    simp only [flat, List.mem_append] at hu
    rcases hu with hu | hu
    · simp [QV.cs] at hu
      rcases hu with rfl | rfl | rfl | rfl <;> simp
    · exact ih u hu z
theorem flat_one (L : List QV) : ∀ u ∈ flat L, u.oneCell' = true := by
  induction L with
  | nil => simp [flat]
  | cons q L ih =>
    intro u hu
    simp only [flat, List.mem_append] at hu
    rcases hu with hu | hu
    · simp [QV.cs] at hu
      rcases hu with rfl | rfl | rfl | rfl <;> rfl
    · exact ih u hu
theorem noLimb_of {W : World} {g : Nat} {cs : Array Value} {T : TypeId} {fr : Nat × Nat} (h : W.heap[g]? = some (.cells cs T fr)) (hn : ∀ u ∈ cs.toList, ∀ z, u ≠ .int .u32 z) : NoLimb W g := by
  intro j z e
  rw [cell_of_row W g j cs T fr h] at e
  obtain ⟨hj, e⟩ := Array.getElem?_eq_some_iff.1 e
  exact hn _ (by rw [← e]; simp) z rfl
theorem zero_no (n : Nat) : ∀ u ∈ (Builtin.zeroCells (Value.agg #[.bool false, .slice none 0 0, .bool false, .slice none 0 0]).cells n).toList, ∀ z, u ≠ .int .u32 z := by
  intro u hu z
  have hcells : (Value.agg #[.bool false, .slice none 0 0, .bool false, .slice none 0 0]).cells = #[.bool false, .slice none 0 0, .bool false, .slice none 0 0] := rfl
  rw [hcells] at hu
  unfold Builtin.zeroCells at hu
  simp only [Array.toList_map, List.mem_map] at hu
  obtain ⟨x, -, rfl⟩ := hu
  have h4 : x % 4 = 0 ∨ x % 4 = 1 ∨ x % 4 = 2 ∨ x % 4 = 3 := by omega
  show #[Value.bool false, Value.slice none 0 0, Value.bool false, Value.slice none 0 0][x % 4]! ≠ _
  rcases h4 with h4 | h4 | h4 | h4 <;> rw [h4] <;> simp

/-- A row of one's own. -/
def OwnQ (w : World) (base : Nat) (v : Value) (L : List QV) : Prop := w.ownsRow base 37 4 v L.length (flat L) ∧ ∀ g, v.ownBlock = some g → NoLimb w g
theorem ownQ_nil (w : World) (base : Nat) : OwnQ w base (.slice none 0 0) [] := ⟨World.ownsRow_nil _ _ _ _, by simp [Value.ownBlock]⟩
theorem OwnQ.below {w w' : World} {base : Nat} {v : Value} {L : List QV} (h : OwnQ w base v L) (hb : Below w.heap.size w w') : OwnQ w' base v L := by
  have hg : w.grownBy w' none := ⟨hb.os, hb.tape, hb.output, hb.size, fun k hk _ => hb.block k hk⟩
  refine ⟨h.1.kept hg (by cases hv : v.ownBlock with | none => exact .inl rfl | some g => exact .inr (by simp)), fun g hv j z => ?_⟩
  rw [bcells hb g j (h.1.lt g hv).2]
  exact h.2 g hv j z
theorem OwnQ.len {w : World} {base : Nat} {v : Value} {L : List QV} (h : OwnQ w base v L) : ∃ ao cap, v = .slice ao L.length cap ∧ L.length ≤ cap ∧ cap ≤ maxLen ∧ (L.length = 0 ∨ ∃ g, ao = some ⟨g, 0, none⟩ ∧ base ≤ g ∧ g < w.heap.size ∧ ∀ j (hj : j < L.length), At4 w g (j * 4) (.bool L[j].n1) (.slice L[j].a1 L[j].k1 L[j].c1) (.bool L[j].n2) (.slice L[j].a2 L[j].k2 L[j].c2)) := by
  rcases h.1.2 with ⟨rfl, h0⟩ | ⟨g, cap, cur, rfl, hbg, hg, hnc, hcm, hcs, htake⟩
  · exact ⟨none, 0, by rw [h0], by omega, by unfold maxLen; omega, .inl h0⟩
  · refine ⟨_, cap, rfl, hnc, hcm, .inr ⟨g, rfl, hbg, (Array.getElem?_eq_some_iff.1 hg).1, fun j hj => ?_⟩⟩
    obtain ⟨f0, f1, f2, f3⟩ := flat_get L j hj
    have key : ∀ c, c < 4 → w.cell? ⟨g, j * 4 + c, none⟩ = (flat L)[j * 4 + c]? := fun c hc => h.1.cellAt (j * 4 + c) (by omega)
    exact ⟨(key 0 (by omega)).trans f0, (key 1 (by omega)).trans f1, (key 2 (by omega)).trans f2, (key 3 (by omega)).trans f3⟩

theorem run_append_q {w : World} (ty : TypeId) (base : Nat) (v : Value) (L : List QV) (hown : OwnQ w base v L) (a : Addr) (c : Nat) (M : List QV) (hnews : ∀ j u, (flat M)[j]? = some u → w.cell? (a.add j) = some u) (hk : L.length + M.length ≤ 1000000) (hbase : base ≤ w.heap.size) :
    ∃ v' w', (Builtin.append_ #[48, 48] ty #[v, .slice (some a) M.length c]).run Try.prog w = .ok v' w' ∧ OwnQ w' base v' (L ++ M) ∧ w.grownBy w' v.ownBlock := by
  obtain ⟨i0, hi, hz0, hz1, hz2⟩ := info_parts Try.infoRat
  have h63 : L.length + M.length ≤ maxLen := by unfold maxLen; omega
  have hby : (L.length + M.length) * 64 ≤ 140737488355328 := by omega
  have hl : (flat M).length = M.length * 4 := flat_len M
  obtain ⟨v', w', hr, h1, h2, -⟩ := run_append_own (P := Try.prog) w base 48 ty 37 i0 _ 4 64 Try.underlying48 hi hz0 hz1 hz2 rfl (by decide) v L.length (flat L) hown.1 a M.length c (flat M) hl hnews (flat_one M) h63 hby hbase
  refine ⟨v', w', hr, ⟨by rw [flat_app, List.length_append]; exact h1, fun g hv => ?_⟩, h2⟩
  rcases hown.1.2 with ⟨rfl, h0⟩ | ⟨g0, cap, cur, rfl, hbg, hg, hnc, hcm, hcs, htake⟩
  · obtain rfl : L = [] := List.eq_nil_of_length_eq_zero h0
    by_cases hm : M.length = 0
    · have : M = [] := List.eq_nil_of_length_eq_zero hm
      subst this
      rcases h1.2 with ⟨rfl, _⟩ | ⟨g', cap', cur', rfl, _, _, _, _, _, _⟩
      · simp [Value.ownBlock] at hv
      · have e : (Builtin.append_ #[48, 48] ty #[.slice none 0 0, .slice (some a) 0 c]).run Try.prog w = .ok (.slice none 0 0) w := by
          simp [Builtin.append_, run_underlying Try.underlying48, sizeOf, typeInfo, hi, Builtin.lenOf, Builtin.firstCells, loadCells, loadCellsFrom]
        rw [show ([] : List QV).length = 0 from rfl] at hr
        rw [e] at hr
        simp at hr
    · have e := run_append_nil (P := Try.prog) w 48 ty 37 i0 _ Try.underlying48 hi hz0 a M.length c (flat M) (by rw [hz1]; exact hl) hnews (by omega) (by omega) (by rw [hz2]; omega)
      rw [e] at hr
      simp only [Result.ok.injEq] at hr
      obtain ⟨rfl, rfl⟩ := hr
      simp only [Value.ownBlock, Option.some.injEq] at hv
      subst hv
      refine noLimb_of (heap_alloc_new w.drew _) ?_
      intro u hu z
      simp only [Array.toList_append, List.mem_append] at hu
      rcases hu with hu | hu
      · exact flat_no M u hu z
      · exact zero_no _ u hu z
  · have hno : ∀ u ∈ cur.toList, ∀ z, u ≠ .int .u32 z := by
      intro u hu z e
      obtain ⟨j, hj, rfl⟩ := List.getElem_of_mem hu
      refine hown.2 g0 rfl j z ?_
      rw [cell_of_row w g0 j cur _ _ hg, Array.getElem?_eq_getElem (by simpa using hj)]
      simpa using e
    by_cases hroom : L.length + M.length ≤ cap
    · have hfit : L.length * i0.size + (flat M).length ≤ cur.size := by rw [hl, hz1, hcs, ← Nat.add_mul]; exact Nat.mul_le_mul_right _ hroom
      have e := run_append_room (P := Try.prog) w 48 ty 37 i0 Try.underlying48 hi g0 L.length cap cur hg a M.length c (flat M) (by rw [hz1]; exact hl) hnews (flat_one M) hroom hfit
      rw [e] at hr
      simp only [Result.ok.injEq] at hr
      obtain ⟨rfl, rfl⟩ := hr
      simp only [Value.ownBlock, Option.some.injEq] at hv
      subst hv
      refine noLimb_of (setRow_heap w g0 cur _ _ _ hg) ?_
      intro u hu z
      simp only [List.mem_append] at hu
      rcases hu with (hu | hu) | hu
      · exact hno u (List.mem_of_mem_take hu) z
      · exact flat_no M u hu z
      · exact hno u (List.mem_of_mem_drop hu) z
    · have holds : ∀ j u, (flat L)[j]? = some u → w.cell? ((⟨g0, 0, none⟩ : Addr).add j) = some u := hown.1.cells (g := g0) rfl
      have e := run_append_grow (P := Try.prog) w 48 ty 37 i0 _ Try.underlying48 hi hz0 ⟨g0, 0, none⟩ L.length cap (flat L) (by rw [hz1]; exact flat_len L) holds a M.length c (flat M) (by rw [hz1]; exact hl) hnews (by omega) (by omega) (growslice_fits (by omega) (by rw [hz2]; exact hby))
      rw [e] at hr
      simp only [Result.ok.injEq] at hr
      obtain ⟨rfl, rfl⟩ := hr
      simp only [Value.ownBlock, Option.some.injEq] at hv
      subst hv
      refine noLimb_of (heap_alloc_new w.drew _) ?_
      intro u hu z
      simp only [Array.toList_append, List.mem_append] at hu
      rcases hu with (hu | hu) | hu
      · exact flat_no L u hu z
      · exact flat_no M u hu z
      · exact zero_no _ u hu z

/-- .. as a step of a region that draws its order. -/
theorem step_append_q {ops : Array Oper} {o : Oper} {ac : Act} {w : World} {K : Act → World → Prop} {Q : Exit → Act → World → Prop} {E : Prop}
    (hgd : o.guard = none) (s x : Operand) (hop : o.op = Op.call { callee := Callee.builtin Builtin.append, args := #[s, x], argTypes := #[48, 48] })
    (base : Nat) (v : Value) (L : List QV) (hs : ac.eval s = v) (hown : OwnQ w base v L) (a : Addr) (c m : Nat) (M : List QV) (hx : ac.eval x = .slice (some a) m c) (hm : m = M.length) (hnews : ∀ j u, (flat M)[j]? = some u → w.cell? (a.add j) = some u) (hk : L.length + M.length ≤ 1000000) (hbase : base ≤ w.heap.size)
    (hK : ∀ v' w', OwnQ w' base v' (L ++ M) → w.grownBy w' v.ownBlock → K (ac.put o.dst v') w') :
    if Region.wanted o (yielded ops ac.tmps) = true then Oper.wp Try.prog o ac w K Q else E := by
  have hw : Region.wanted o (yielded ops ac.tmps) = true := by simp [Region.wanted, hgd]
  rw [if_pos hw]
  subst hm
  obtain ⟨v', w', hrun, r1, r2⟩ := run_append_q (w := w) o.type base v L hown a c M hnews hk hbase
  unfold Oper.wp
  simp [execOp, hop, resolve, invoke, builtin, hs, hx, hrun, Result.andThen]
  exact hK v' w' r1 r2
theorem wpList_append_q {ops : Array Oper} {rest : List Oper} {o : Oper} {ac : Act} {w : World} {Q : Exit → Act → World → Prop}
    (hgd : o.guard = none) (s x : Operand) (hop : o.op = Op.call { callee := Callee.builtin Builtin.append, args := #[s, x], argTypes := #[48, 48] })
    (base : Nat) (v : Value) (L : List QV) (hs : ac.eval s = v) (hown : OwnQ w base v L) (a : Addr) (c m : Nat) (M : List QV) (hx : ac.eval x = .slice (some a) m c) (hm : m = M.length) (hnews : ∀ j u, (flat M)[j]? = some u → w.cell? (a.add j) = some u) (hk : L.length + M.length ≤ 1000000) (hbase : base ≤ w.heap.size)
    (hK : ∀ v' w', OwnQ w' base v' (L ++ M) → w.grownBy w' v.ownBlock → wpList Try.prog ops Q rest (ac.put o.dst v') w') : wpList Try.prog ops Q (o :: rest) ac w := by
  refine wpList_plain hgd fun K hK' => ?_
  subst hm
  obtain ⟨v', w', hrun, r1, r2⟩ := run_append_q (w := w) o.type base v L hown a c M hnews hk hbase
  unfold Oper.wp
  simp [execOp, hop, resolve, invoke, builtin, hs, hx, hrun, Result.andThen]
  exact hK' _ _ (hK v' w' r1 r2)

end Go.Proofs.Ytkoadlacdgdemaa

namespace Go.Proofs.Ytkoadlacdgdemaa
open Go.RowKit Lm
set_option linter.unusedSimpArgs false
set_option linter.unusedVariables false
set_option maxRecDepth 100000

/-- A row of one's own, whose quotients are told. -/
def OwnIs (w : World) (base : Nat) (v : Value) (n : Nat) (R : List Rat) : Prop := ∃ L : List QV, L.length = R.length ∧ OwnQ w base v L ∧ ∀ j (h : j < L.length) (h' : j < R.length), RIs w 0 L[j].v n R[j]
theorem OwnIs.below {w w' : World} {base n : Nat} {v : Value} {R : List Rat} (h : OwnIs w base v n R) (hb : Below w.heap.size w w') : OwnIs w' base v n R := by
  obtain ⟨L, h1, h2, h3⟩ := h
  exact ⟨L, h1, h2.below hb, fun j hj hj' => (h3 j hj hj').below hb⟩
theorem OwnIs.qis {w : World} {base n : Nat} {v : Value} {R : List Rat} (h : OwnIs w base v n R) : ∃ ao cap, v = .slice ao R.length cap ∧ QIs w v n R := by
  obtain ⟨L, h1, h2, h3⟩ := h
  obtain ⟨ao, cap, rfl, q1, q2, q3⟩ := h2.len
  refine ⟨ao, cap, by rw [h1], ao, _, cap, rfl, h1, by omega, q2, ?_⟩
  rcases q3 with q3 | ⟨g, rfl, _, hg, hc⟩
  · exact .inl (by omega)
  · refine .inr ⟨g, 0, rfl, hg, fun i hi => ?_⟩
    rw [Nat.zero_add]
    exact ⟨_, _, _, _, _, _, _, _, hc i (by omega), h3 i (by omega) hi⟩
theorem ownIs_nil (w : World) (base n : Nat) : OwnIs w base (.slice none 0 0) n [] := ⟨[], rfl, ownQ_nil _ _, fun j h => by simp at h⟩
theorem OwnIs.shape {w : World} {base n : Nat} {v : Value} {R : List Rat} (h : OwnIs w base v n R) : ∃ ao cap, v = .slice ao R.length cap := by
  obtain ⟨ao, cap, e, -⟩ := h.qis
  exact ⟨ao, cap, e⟩
theorem OwnIs.lt {w : World} {base n : Nat} {v : Value} {R : List Rat} (h : OwnIs w base v n R) : ∀ g, v.ownBlock = some g → base ≤ g ∧ NoLimb w g := by
  obtain ⟨L, h1, h2, h3⟩ := h
  exact fun g hg => ⟨(h2.1.lt g hg).1, h2.2 g hg⟩
theorem OwnIs.mono {w : World} {base n m : Nat} {v : Value} {R : List Rat} (h : OwnIs w base v n R) (hm : n ≤ m) : OwnIs w base v m R := by
  obtain ⟨L, h1, h2, h3⟩ := h
  exact ⟨L, h1, h2, fun j hj hj' => (h3 j hj hj').mono (Nat.le_refl _) hm⟩
/-- One more has been appended. -/
theorem OwnIs.snoc {w w' : World} {base n : Nat} {v v' : Value} {R : List Rat} {L : List QV} {q : QV} {r : Rat} (h1 : L.length = R.length) (h2 : OwnQ w base v L) (h3 : ∀ j (h : j < L.length) (h' : j < R.length), RIs w 0 L[j].v n R[j]) (hq : RIs w 0 q.v n r) (hO : OwnQ w' base v' (L ++ [q])) (hg : w.grownBy w' v.ownBlock) : OwnIs w' base v' n (R ++ [r]) := by
  have move : ∀ u x, RIs w 0 u n x → RIs w' 0 u n x := by
    intro u x hx
    cases hv : v.ownBlock with
    | none =>
      rw [hv] at hg
      exact hx.offL (g := w.heap.size) (fun j z e => by have := World.block_lt_of_cell? w _ e; simp at this) ⟨hg.os, hg.tape, hg.output, hg.size, fun k hk _ => hg.block k hk (by simp)⟩
    | some g =>
      rw [hv] at hg
      exact hx.offL (h2.2 g hv) hg
  refine ⟨L ++ [q], by simp [h1], hO, fun j hj hj' => ?_⟩
  by_cases hl : j < L.length
  · rw [List.getElem_append_left hl, List.getElem_append_left (by omega)]
    exact move _ _ (h3 j hl (by omega))
  · simp at hj
    have : j = L.length := by omega
    subst this
    rw [List.getElem_append_right (by omega), List.getElem_append_right (by omega)]
    simp only [Nat.sub_self, h1, List.getElem_cons_zero]
    exact move _ _ hq
theorem news_one {w : World} {g : Nat} {m7 m8 : Bool} {d7 d8 : Option Addr} {j7 e7 j8 e8 : Nat} (h : Box4 w g (.bool m7) (.slice d7 j7 e7) (.bool m8) (.slice d8 j8 e8)) : ∀ j u, (flat [⟨m7, d7, j7, e7, m8, d8, j8, e8⟩])[j]? = some u → w.cell? ((⟨g, 0, none⟩ : Addr).add j) = some u := by
  obtain ⟨c0, c1, c2, c3⟩ := h.c
  intro j u hu
  match j, hu with
  | 0, hu => simp [flat, QV.cs] at hu; subst hu; simpa [Addr.add] using c0
  | 1, hu => simp [flat, QV.cs] at hu; subst hu; simpa [Addr.add] using c1
  | 2, hu => simp [flat, QV.cs] at hu; subst hu; simpa [Addr.add] using c2
  | 3, hu => simp [flat, QV.cs] at hu; subst hu; simpa [Addr.add] using c3
  | j + 4, hu => simp [flat, QV.cs] at hu

theorem keepT {w U W : World} {b o b' o' g : Nat} {p q r s p' q' r' s' t0 t1 t2 t3 : Value} (h : At4 w b o p q r s) (hl : b < w.heap.size) (h' : At4 w b' o' p' q' r' s') (hl' : b' < w.heap.size) (hb : Below w.heap.size w W) (bT : Box4 U g t0 t1 t2 t3) (hU : Below U.heap.size U W) :
    W.cell? ⟨b, o, none⟩ = some p ∧ W.cell? ⟨b, o + 1, none⟩ = some q ∧ W.cell? ⟨b, o + 2, none⟩ = some r ∧ W.cell? ⟨b, o + 3, none⟩ = some s ∧ W.cell? ⟨b', o', none⟩ = some p' ∧ W.cell? ⟨b', o' + 1, none⟩ = some q' ∧ W.cell? ⟨b', o' + 2, none⟩ = some r' ∧ W.cell? ⟨b', o' + 3, none⟩ = some s' ∧ W.cell? ⟨g, 0, none⟩ = some t0 ∧ W.cell? ⟨g, 1, none⟩ = some t1 ∧ W.cell? ⟨g, 2, none⟩ = some t2 ∧ W.cell? ⟨g, 3, none⟩ = some t3 := by
  obtain ⟨h1, h2, h3, h4⟩ := h.below hl hb
  obtain ⟨h5, h6, h7, h8⟩ := h'.below hl' hb
  obtain ⟨c0, c1, c2, c3⟩ := (bT.keep hU).c
  exact ⟨h1, h2, h3, h4, h5, h6, h7, h8, c0, c1, c2, c3⟩
theorem step_append_is {ops : Array Oper} {o : Oper} {ac : Act} {W : World} {K : Act → World → Prop} {Q : Exit → Act → World → Prop} {E : Prop}
    (hgd : o.guard = none) (s x : Operand) (hop : o.op = Op.call { callee := Callee.builtin Builtin.append, args := #[s, x], argTypes := #[48, 48] })
    (base : Nat) (v : Value) (N : Nat) (R : List Rat) (r : Rat) (hs : ac.eval s = v) (hO : OwnIs W base v N R) (g : Nat) (m7 m8 : Bool) (d7 d8 : Option Addr) (j7 e7 j8 e8 : Nat) (hx : ac.eval x = .slice (some ⟨g, 0, none⟩) 1 1) (hB : Box4 W g (.bool m7) (.slice d7 j7 e7) (.bool m8) (.slice d8 j8 e8)) (hq : RIs W 0 (.agg #[.bool m7, .slice d7 j7 e7, .bool m8, .slice d8 j8 e8]) N r) (hk : R.length ≤ 1000) (hbase : base ≤ W.heap.size)
    (hK : ∀ ro rc w', OwnIs w' base (.slice ro (R.length + 1) rc) N (R ++ [r]) → (∀ B u, B ≤ base → Below B u W → Below B u w') → K (ac.put o.dst (.slice ro (R.length + 1) rc)) w') :
    if Region.wanted o (yielded ops ac.tmps) = true then Oper.wp Try.prog o ac W K Q else E := by
  obtain ⟨L, hL1, hQ1, hall1⟩ := hO
  refine step_append_q hgd s x hop base v L hs hQ1 ⟨g, 0, none⟩ 1 1 [⟨m7, d7, j7, e7, m8, d8, j8, e8⟩] hx rfl (news_one hB) (by simp; omega) hbase ?_
  intro v' w' hO' hg
  have hN := OwnIs.snoc (q := ⟨m7, d7, j7, e7, m8, d8, j8, e8⟩) hL1 hQ1 hall1 hq hO' hg
  obtain ⟨ro, rc, rfl⟩ := hN.shape
  simp only [List.length_append, List.length_cons, List.length_nil, Nat.zero_add] at hN ⊢
  exact hK ro rc w' hN (fun B u hB' hb => hb.grown hg (by have := hb.size; omega) (fun q e => by have := (hQ1.1.lt q e).1; omega))
theorem sz_ok (w : World) (o : Obj) : (w.alloc o).heap.size ≤ w.heap.size + 1 := by simp
theorem len_ok {L : List QV} {R : List Rat} {i : Nat} {q : QV} (h1 : L.length = R.length) (h2 : R.length = i) (h : i < 1000000) : L.length + ([q] : List QV).length ≤ 1000000 := by simp; omega
theorem base_ok {w w5 : World} {o o' : Obj} (h : Below (w.alloc o).heap.size (w.alloc o) w5) : w.heap.size + 1 ≤ (w5.alloc o').heap.size := by have := h.size; simp at this ⊢; omega
theorem plusR_take (A B : List Rat) (t : Rat) (i : Nat) (h1 : i < A.length) (h2 : i < B.length) : plusR (A.take (i + 1)) t (B.take (i + 1)) = plusR (A.take i) t (B.take i) ++ [A[i] + t * B[i]] := by
  unfold plusR
  rw [List.take_succ_eq_append_getElem h1, List.take_succ_eq_append_getElem h2, List.zipWith_append (by simp; omega)]
  rfl

def PlusRel (w : World) (n : Nat) (A : List Rat) (t : Rat) (B : List Rat) (ov iv : Value) (wr : World) : Prop := ∃ i : Nat, i ≤ A.length ∧ iv = .int .i64 i ∧ OwnIs wr w.heap.size ov n (plusR (A.take i) t (B.take i)) ∧ Below w.heap.size w wr ∧ True

end Go.Proofs.Ytkoadlacdgdemaa

namespace Go.Proofs.Ytkoadlacdgdemaa
open Go.RowKit Lm
set_option linter.unusedSimpArgs false
set_option linter.unusedVariables false
set_option maxRecDepth 100000

theorem qis_at {W : World} {ao : Option Addr} {k cap n : Nat} {R : List Rat} (h : QIs W (.slice ao k cap) n R) : k = R.length ∧ k ≤ 9223372036854775807 ∧ (0 < R.length → ∃ b off, ao = some ⟨b, off, none⟩ ∧ b < W.heap.size ∧ ∀ i (h : i < R.length), ∃ n1 a1 k1 c1 n2 a2 k2 c2, At4 W b (off + i * 4) (.bool n1) (.slice a1 k1 c1) (.bool n2) (.slice a2 k2 c2) ∧ RIs W 0 (.agg #[.bool n1, .slice a1 k1 c1, .bool n2, .slice a2 k2 c2]) n R[i]) := by
  obtain ⟨ao', k', cap', e, hk, h1, h2, h3⟩ := h
  simp only [Value.slice.injEq] at e
  obtain ⟨rfl, rfl, rfl⟩ := e
  unfold maxLen at h2
  refine ⟨hk, by omega, fun h0 => ?_⟩
  rcases h3 with h3 | h3
  · omega
  · exact h3
theorem qis_nil (W : World) (n : Nat) : QIs W (.slice none 0 0) n [] := ⟨none, 0, 0, rfl, rfl, Nat.le_refl _, by unfold maxLen; omega, .inl rfl⟩

variable {U W W' : World} {KR KS KR' KS' : List (Value × Nat × Rat)} {RR RS RR' RS' : List (Value × Nat × List Rat)} {u v : Value} {n m : Nat} {r t : Rat} {A B R : List Rat}
theorem sz_qis {W : World} {v : Value} {N : Nat} (hN : 1 ≤ N) (h : QIs W v N R) : ∀ r ∈ R, Sz N r := by
  obtain ⟨ao, k, cap, rfl, hk, hA⟩ := h.sl
  exact hA.sz hN

end Go.Proofs.Ytkoadlacdgdemaa
