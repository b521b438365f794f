/-
  Rows of quotients that grow by rows that came in, and by noughts; tables that grow.
  The law VecLong.
  Walks: rows cut to a length.
  The law VecSides.
  Whether two rows are one; a row of noughts and one 1; the law VecUnits.
-/
import Derived.Test.YtkoadlacdgdemaaVB
import Derived.Test.YtkoadlacdgdemaaVC
import Derived.Lib.AppendZerosOnto
import Derived.Deep.Upon

namespace Go.Proofs.Ytkoadlacdgdemaa
open Go.RowKit Lm
set_option linter.unusedSimpArgs false
set_option linter.unusedVariables false
set_option maxRecDepth 100000

def zeroQ : QV := ⟨false, none, 0, 0, false, none, 0, 0⟩
theorem zeros_flat (k : Nat) : (Builtin.zeroCells (Value.agg #[.bool false, .slice none 0 0, .bool false, .slice none 0 0]).cells k).toList = flat (List.replicate k zeroQ) := by
  have hcells : (Value.agg #[.bool false, .slice none 0 0, .bool false, .slice none 0 0]).cells = #[.bool false, .slice none 0 0, .bool false, .slice none 0 0] := rfl
  rw [hcells]
  have hlen := flat_len (List.replicate k zeroQ)
  rw [List.length_replicate] at hlen
  unfold Builtin.zeroCells
  refine List.ext_getElem (by simp [hlen]) fun j h1 h2 => ?_
  have hj : j < k * 4 := by omega
  have hq : j / 4 < (List.replicate k zeroQ).length := by simp; omega
  obtain ⟨f0, f1, f2, f3⟩ := flat_get (List.replicate k zeroQ) (j / 4) hq
  rw [List.getElem_replicate] at f0 f1 f2 f3
  have key : ∀ u, (flat (List.replicate k zeroQ))[j]? = some u → u = (flat (List.replicate k zeroQ))[j] := fun u hu => by
    rw [List.getElem?_eq_getElem h2] at hu
    simpa using hu.symm
  simp only [Array.toList_map, List.getElem_map, Array.toList_range, List.getElem_range]
  have h4 : j % 4 = 0 ∨ j % 4 = 1 ∨ j % 4 = 2 ∨ j % 4 = 3 := by omega
  rcases h4 with h4 | h4 | h4 | h4
  · rw [show j / 4 * 4 = j by omega] at f0
    rw [← key _ f0]
    show #[Value.bool false, Value.slice none 0 0, Value.bool false, Value.slice none 0 0][j % 4]! = _
    rw [h4]; rfl
  · rw [show j / 4 * 4 + 1 = j by omega] at f1
    rw [← key _ f1]
    show #[Value.bool false, Value.slice none 0 0, Value.bool false, Value.slice none 0 0][j % 4]! = _
    rw [h4]; rfl
  · rw [show j / 4 * 4 + 2 = j by omega] at f2
    rw [← key _ f2]
    show #[Value.bool false, Value.slice none 0 0, Value.bool false, Value.slice none 0 0][j % 4]! = _
    rw [h4]; rfl
  · rw [show j / 4 * 4 + 3 = j by omega] at f3
    rw [← key _ f3]
    show #[Value.bool false, Value.slice none 0 0, Value.bool false, Value.slice none 0 0][j % 4]! = _
    rw [h4]; rfl

theorem ownQ_new {w : World} {base : Nat} (hb : base ≤ w.heap.size) (M : List QV) (n cap : Nat) (hn : n = M.length) (hc : n ≤ cap) (hm : cap ≤ maxLen) (cur : Array Value) (hcur : cur.toList = flat M ++ (Builtin.zeroCells (Value.agg #[.bool false, .slice none 0 0, .bool false, .slice none 0 0]).cells (cap - n)).toList) : OwnQ (w.alloc (.cells cur 37)) base (.slice (some ⟨w.heap.size, 0, none⟩) n cap) M := by
  subst hn
  refine ⟨⟨flat_len M, .inr ⟨w.heap.size, cap, cur, rfl, hb, heap_alloc_new w _, hc, hm, ?_, ?_⟩⟩, fun g hg => ?_⟩
  · rw [← Array.length_toList, hcur, List.length_append, zeros_flat, flat_len, flat_len, List.length_replicate, ← Nat.add_mul]
    congr 1
    omega
  · rw [hcur, ← flat_len M]
    exact List.take_left
  · simp only [Value.ownBlock, Option.some.injEq] at hg
    subst hg
    refine noLimb_of (heap_alloc_new w _) ?_
    intro u hu z
    rw [hcur, zeros_flat, List.mem_append] at hu
    rcases hu with hu | hu
    · exact flat_no M u hu z
    · exact flat_no _ u hu z

theorem run_append_room_zeros {P : Program} (w : World) (t tn ty e : TypeId) (i : TypeInfo) (z : Value) (kq kn : IntKind) (ht : P.underlying t = some (.slice e)) (htn : P.underlying tn = some (.int kn)) (hi : P.info? e = some i) (hz : i.zero = some z)
    (g sLen sCap : Nat) (cur : Array Value) (hg : w.heap[g]? = some (.cells cur e (0, 0))) (k : Nat) (h0 : 0 < k) (hs : 0 < i.size) (h63 : (k : Int) ≤ 9223372036854775807) (h48 : k * i.bytes ≤ 281474976710656) (h1 : ∀ u ∈ (Builtin.zeroCells z.cells k).toList, u.oneCell' = true)
    (hroom : sLen + k ≤ sCap) (hfit : sLen * i.size + (Builtin.zeroCells z.cells k).toList.length ≤ cur.size) :
    (Builtin.append_ #[t, tn] ty #[.slice (some ⟨g, 0, none⟩) sLen sCap, .int kq k]).run P w =
      .ok (.slice (some ⟨g, 0, none⟩) (sLen + k) sCap) (w.setRow g (cur.toList.take (sLen * i.size) ++ (Builtin.zeroCells z.cells k).toList ++ cur.toList.drop (sLen * i.size + (Builtin.zeroCells z.cells k).toList.length)).toArray) := by
  have hk : k ≠ 0 := by omega
  have hw : IntKind.i64.wrap (k : Int) = k := by rw [IntKind.wrap_i64]; omega
  have h48i : ¬ (281474976710656 < (k : Int) * (i.bytes : Int)) := by
    rw [← Int.natCast_mul]
    omega
  have hneg : ¬ ((k : Int) < 0) := by omega
  have hns : ¬ (k * i.size = 0) := Nat.mul_ne_zero hk (by omega)
  have hst := run_storeCells_at P g (sLen * i.size) e (Builtin.zeroCells z.cells k).toList 0 cur w hg (by simpa using hfit) h1
  simp only [Nat.add_zero] at hst
  simp [Builtin.append_, run_underlying ht, run_underlying htn, sizeOf, typeInfo, zeroValue, hi, hz, asInt, asIntOf, hw, hneg, hns, h48i, hroom, Addr.add_lit, hst]

theorem ownQ_room {w : World} {base g n cap k : Nat} {cur : Array Value} {L M : List QV} (hL : n = L.length) (hk : k = M.length) (hbg : base ≤ g) (hg : w.heap[g]? = some (.cells cur 37 (0, 0))) (hroom : n + k ≤ cap) (hcm : cap ≤ maxLen) (hcs : cur.size = cap * 4) (htake : cur.toList.take (n * 4) = flat L) (hno : NoLimb w g) :
    OwnQ (w.setRow g (cur.toList.take (n * 4) ++ flat M ++ cur.toList.drop (n * 4 + (flat M).length)).toArray) base (.slice (some ⟨g, 0, none⟩) (n + k) cap) (L ++ M) := by
  have hlM := flat_len M
  have hlen : (flat L ++ flat M).length = (n + k) * 4 := by rw [List.length_append, flat_len, flat_len]; omega
  have hno2 : ∀ u ∈ cur.toList, ∀ z, u ≠ .int .u32 z := by
    intro u hu z e
    obtain ⟨j, hj, rfl⟩ := List.getElem_of_mem hu
    refine hno j z ?_
    rw [cell_of_row w g j cur _ _ hg, Array.getElem?_eq_getElem (by simpa using hj)]
    simpa using e
  refine ⟨⟨by rw [flat_len], .inr ⟨g, cap, _, by rw [List.length_append, ← hL, ← hk], hbg, setRow_heap w g cur _ _ _ hg, by rw [List.length_append, ← hL, ← hk]; exact hroom, hcm, ?_, ?_⟩⟩, fun g' hg' => ?_⟩
  · simp only [List.size_toArray, List.length_append, List.length_take, List.length_drop, Array.length_toList]
    omega
  · rw [htake, List.length_append, ← hL, ← hk, ← hlen, flat_app]
    exact List.take_left
  · simp only [Value.ownBlock, Option.some.injEq] at hg'
    subst hg'
    refine noLimb_of (setRow_heap w g cur _ _ _ hg) ?_
    intro u hu z
    simp only [List.mem_append] at hu
    rcases hu with (hu | hu) | hu
    · exact hno2 u (List.mem_of_mem_take hu) z
    · exact flat_no M u hu z
    · exact hno2 u (List.mem_of_mem_drop hu) z

/-- So many noughts more. -/
theorem run_append_z {w : World} (ty : TypeId) (base : Nat) (v : Value) (L : List QV) (hown : OwnQ w base v L) (k : Nat) (h0 : 0 < k) (hk : L.length + k ≤ 1000000) (hbase : base ≤ w.heap.size) :
    ∃ v' w', (Builtin.append_ #[48, 3] ty #[v, .int .i64 (k : Int)]).run Try.prog w = .ok v' w' ∧ OwnQ w' base v' (L ++ List.replicate k zeroQ) ∧ w.grownBy w' v.ownBlock := by
  obtain ⟨i0, hi, hz0, hz1, hz2⟩ := info_parts Try.infoRat
  have hlz : (Builtin.zeroCells (Value.agg #[.bool false, .slice none 0 0, .bool false, .slice none 0 0]).cells k).toList.length = k * 4 := by rw [zeros_flat, flat_len, List.length_replicate]
  rcases hown.1.2 with ⟨rfl, hl0⟩ | ⟨g0, cap, cur, rfl, hbg, hg, hnc, hcm, hcs, htake⟩
  · obtain rfl : L = [] := List.eq_nil_of_length_eq_zero hl0
    have e := Go.Lib.run_append_nil_zeros (P := Try.prog) w 48 3 ty 37 i0 _ .i64 .i64 Try.underlying48 Try.underlying3 hi hz0 k h0 (by omega) (by omega) (by rw [hz2]; simp at hk; omega)
    refine ⟨_, _, e, ?_, ⟨rfl, rfl, rfl, by simp, fun q hq _ => heap_alloc_old w.drew _ hq⟩⟩
    refine ownQ_new (w := w.drew) hbase (List.replicate k zeroQ) k _ (by simp) (grownCap_ge w k 0 _) (grownCap_le_maxLen w k 0 _ (by unfold maxLen; simp at hk; omega)) _ ?_
    rw [Array.toList_append, zeros_flat]
  · by_cases hroom : L.length + k ≤ cap
    · have e := run_append_room_zeros (P := Try.prog) w 48 3 ty 37 i0 _ .i64 .i64 Try.underlying48 Try.underlying3 hi hz0 g0 L.length cap cur hg k h0 (by omega) (by omega) (by rw [hz2]; omega) (by rw [zeros_flat]; exact flat_one _) hroom (by rw [hlz, hz1, hcs, ← Nat.add_mul]; exact Nat.mul_le_mul_right _ hroom)
      refine ⟨_, _, e, ?_, ⟨rfl, rfl, rfl, by simp, fun q _ hq => setRow_other w g0 q _ (fun e => hq (by simp [Value.ownBlock, e]))⟩⟩
      rw [zeros_flat, hz1]
      exact ownQ_room rfl (by simp) hbg hg hroom hcm hcs htake (hown.2 g0 rfl)
    · have holds : ∀ j u, (flat L)[j]? = some u → w.drew.cell? ((⟨g0, 0, none⟩ : Addr).add j) = some u := hown.1.cells (g := g0) rfl
      have e := Go.Lib.run_append_grow_zeros (P := Try.prog) w 48 3 ty 37 i0 _ .i64 .i64 Try.underlying48 Try.underlying3 hi hz0 (some ⟨g0, 0, none⟩) L.length cap (flat L) (run_firstCells_some w.drew i0.size L.length ⟨g0, 0, none⟩ L.length cap (flat L) (by rw [hz1]; exact flat_len L) holds) k h0 (by omega) (by omega) (by omega) (by rw [hz2]; omega) (growslice_fits (by omega) (by rw [hz2]; omega))
      refine ⟨_, _, e, ?_, ⟨rfl, rfl, rfl, by simp, fun q hq _ => heap_alloc_old w.drew _ hq⟩⟩
      refine ownQ_new (w := w.drew) hbase (L ++ List.replicate k zeroQ) _ _ (by simp) (grownCap_ge w _ cap _) (grownCap_le_maxLen w _ cap _ (by unfold maxLen; omega)) _ ?_
      rw [Array.toList_append, Array.toList_append, zeros_flat, flat_app]

/-- What a row yields when it is appended. -/
def SrcQ (w : World) (x : Value) (M : List QV) : Prop := ∃ ao c, x = .slice ao M.length c ∧ (M = [] ∨ ∃ a, ao = some a ∧ ∀ j u, (flat M)[j]? = some u → w.cell? (a.add j) = some u)
theorem run_append_s {w : World} (ty : TypeId) (base : Nat) (v x : Value) (L M : List QV) (hown : OwnQ w base v L) (hs : SrcQ w x M) (hk : L.length + M.length ≤ 1000000) (hbase : base ≤ w.heap.size) :
    ∃ v' w', (Builtin.append_ #[48, 48] ty #[v, x]).run Try.prog w = .ok v' w' ∧ OwnQ w' base v' (L ++ M) ∧ w.grownBy w' v.ownBlock := by
  obtain ⟨ao, c, rfl, h⟩ := hs
  rcases h with rfl | ⟨a, rfl, hc⟩
  · obtain ⟨i0, hi, hz0, hz1, hz2⟩ := info_parts Try.infoRat
    obtain ⟨vo, vc, rfl, hle, -⟩ := hown.len
    have hS : Src Try.prog i0.size 48 (.slice ao ([] : List QV).length c) 0 [] w := by
      cases ao with
      | none => exact Src.ofNil w Try.underlying48 c
      | some a => exact Src.ofSlice w Try.underlying48 a 0 c [] (by simp) (by simp) (by simp)
    have e := Go.run_append_nothing (P := Try.prog) w 48 48 ty 37 i0 Try.underlying48 hi vo L.length vc hle _ hS
    exact ⟨_, _, e, by rw [List.append_nil]; exact hown, ⟨rfl, rfl, rfl, Nat.le_refl _, fun _ _ _ => rfl⟩⟩
  · exact run_append_q ty base v L hown a c M hc hk hbase

/-- A row of one's own, whose quotients may be handed in. -/
def OwnArg (w : World) (base : Nat) (v : Value) (n : Nat) (R : List Rat) : Prop := ∃ L : List QV, L.length = R.length ∧ OwnQ w base v L ∧ ∀ j (h : j < L.length) (h' : j < R.length), RArg w L[j].v n R[j]
/-- .. and one that is appended. -/
def ArgSrc (w : World) (x : Value) (n : Nat) (R : List Rat) : Prop := ∃ L : List QV, L.length = R.length ∧ SrcQ w x L ∧ ∀ j (h : j < L.length) (h' : j < R.length), RArg w L[j].v n R[j]
theorem OwnArg.below {w w' : World} {base n : Nat} {v : Value} {R : List Rat} (h : OwnArg w base v n R) (hb : Below w.heap.size w w') : OwnArg w' base v n R := by
  obtain ⟨L, h1, h2, h3⟩ := h
  exact ⟨L, h1, h2.below hb, fun j hj hj' => (h3 j hj hj').below hb⟩
theorem OwnArg.qsl {w : World} {base n : Nat} {v : Value} {R : List Rat} (h : OwnArg w base v n R) : ∃ ao cap, v = .slice ao R.length cap ∧ QSl w v n R ∧ R.length ≤ cap ∧ cap ≤ maxLen := by
  obtain ⟨L, h1, h2, h3⟩ := h
  obtain ⟨ao, cap, rfl, q1, q2, q3⟩ := h2.len
  refine ⟨ao, cap, by rw [h1], ⟨ao, _, cap, rfl, h1, by omega, q2, ?_⟩, by omega, q2⟩
  rcases q3 with q3 | ⟨g, rfl, _, hg, hc⟩
  · exact .inl (by omega)
  · refine .inr ⟨g, 0, rfl, hg, fun i hi => ?_⟩
    rw [Nat.zero_add]
    obtain ⟨p1, p2, p3, p4⟩ := hc i (by omega)
    exact ⟨_, _, _, _, _, _, _, _, p1, p2, p3, p4, h3 i (by omega) hi⟩
theorem OwnArg.lt {w : World} {base n : Nat} {v : Value} {R : List Rat} (h : OwnArg w base v n R) : ∀ g, v.ownBlock = some g → base ≤ g ∧ g < w.heap.size ∧ NoLimb w g := by
  obtain ⟨L, h1, h2, h3⟩ := h
  exact fun g hg => ⟨(h2.1.lt g hg).1, (h2.1.lt g hg).2, h2.2 g hg⟩
theorem OwnArg.nil (w : World) (base n : Nat) : OwnArg w base (.slice none 0 0) n [] := ⟨[], rfl, ownQ_nil _ _, fun j h => by simp at h⟩
/-- An empty literal. -/
theorem OwnArg.lit {w : World} {base n g : Nat} (hb : base ≤ w.heap.size) (hg : g = w.heap.size) : OwnArg (w.alloc (.cells #[] 37)) base (.slice (some ⟨g, 0, none⟩) 0 0) n [] := by
  subst hg
  exact ⟨[], rfl, ownQ_new hb [] 0 0 rfl (Nat.le_refl _) (by unfold maxLen; omega) #[] (by simp [flat, Builtin.zeroCells]), fun j h => by simp at h⟩
theorem rarg_move {w w' : World} {base : Nat} {v : Value} {L : List QV} (h2 : OwnQ w base v L) (hg : w.grownBy w' v.ownBlock) {u : Value} {n : Nat} {x : Rat} (hx : RArg w u n x) : RArg w' u n x := by
  cases hv : v.ownBlock with
  | none =>
    rw [hv] at hg
    exact hx.offL (g := w.heap.size) (fun j z e => by have := World.block_lt_of_cell? w _ e; simp at this) ⟨hg.os, hg.tape, hg.output, hg.size, fun k hk _ => hg.block k hk (by simp)⟩
  | some g =>
    rw [hv] at hg
    exact hx.offL (h2.2 g hv) hg
theorem run_append_arg {w : World} (ty : TypeId) (base n : Nat) (v x : Value) (R S : List Rat) (hO : OwnArg w base v n R) (hS : ArgSrc w x n S) (hk : R.length + S.length ≤ 1000000) (hbase : base ≤ w.heap.size) :
    ∃ v' w', (Builtin.append_ #[48, 48] ty #[v, x]).run Try.prog w = .ok v' w' ∧ OwnArg w' base v' n (R ++ S) ∧ w.grownBy w' v.ownBlock := by
  obtain ⟨L, h1, h2, h3⟩ := hO
  obtain ⟨M, m1, m2, m3⟩ := hS
  obtain ⟨v', w', hr, hq, hg⟩ := run_append_s ty base v x L M h2 m2 (by omega) hbase
  refine ⟨v', w', hr, ⟨L ++ M, by simp [h1, m1], hq, fun j hj hj' => ?_⟩, hg⟩
  by_cases hl : j < L.length
  · rw [List.getElem_append_left hl, List.getElem_append_left (by omega)]
    exact rarg_move h2 hg (h3 j hl (by omega))
  · simp at hj hj'
    rw [List.getElem_append_right (by omega), List.getElem_append_right (by omega)]
    have := rarg_move h2 hg (m3 (j - L.length) (by omega) (by omega))
    simpa [h1] using this
theorem run_append_argz {w : World} (ty : TypeId) (base n : Nat) (v : Value) (R : List Rat) (hO : OwnArg w base v n R) (k : Nat) (h0 : 0 < k) (hk : R.length + k ≤ 1000000) (hbase : base ≤ w.heap.size) :
    ∃ v' w', (Builtin.append_ #[48, 3] ty #[v, .int .i64 (k : Int)]).run Try.prog w = .ok v' w' ∧ OwnArg w' base v' n (R ++ List.replicate k 0) ∧ w.grownBy w' v.ownBlock := by
  obtain ⟨L, h1, h2, h3⟩ := hO
  obtain ⟨v', w', hr, hq, hg⟩ := run_append_z ty base v L h2 k h0 (by omega) hbase
  refine ⟨v', w', hr, ⟨_, by simp [h1], hq, fun j hj hj' => ?_⟩, hg⟩
  by_cases hl : j < L.length
  · rw [List.getElem_append_left hl, List.getElem_append_left (by omega)]
    exact rarg_move h2 hg (h3 j hl (by omega))
  · simp at hj hj'
    rw [List.getElem_append_right (by omega), List.getElem_append_right (by omega), List.getElem_replicate, List.getElem_replicate]
    exact (rarg_zero w').mono (Nat.zero_le _)
theorem exL {α : Type} {P : Nat → α → Prop} : ∀ n : Nat, (∀ i, i < n → ∃ x, P i x) → ∃ L : List α, L.length = n ∧ ∀ i (h : i < L.length), P i L[i]
  | 0, _ => ⟨[], rfl, fun i h => by simp at h⟩
  | n + 1, h => by
    obtain ⟨L, h1, h2⟩ := exL n (fun i hi => h i (by omega))
    obtain ⟨x, hx⟩ := h n (by omega)
    refine ⟨L ++ [x], by simp [h1], fun i hi => ?_⟩
    by_cases hl : i < L.length
    · rw [List.getElem_append_left hl]; exact h2 i hl
    · simp at hi
      have : i = n := by omega
      subst this
      rw [List.getElem_append_right (by omega)]
      simpa [h1] using hx
/-- The beginning of a row, to be appended. -/
theorem QAt.src {w : World} {ao : Option Addr} {cap n : Nat} {R : List Rat} (h : QAt w ao cap n R) (j : Nat) (hj : j ≤ R.length) : ArgSrc w (.slice ao j cap) n (R.take j) := by
  by_cases h0 : j = 0
  · subst h0
    exact ⟨[], by simp, ⟨ao, cap, rfl, .inl rfl⟩, fun i hi => by simp at hi⟩
  · obtain ⟨b, off, rfl, hb⟩ := h.spot (by omega)
    have hel : ∀ i, i < j → ∃ q : QV, At4 w b (off + i * 4) (.bool q.n1) (.slice q.a1 q.k1 q.c1) (.bool q.n2) (.slice q.a2 q.k2 q.c2) ∧ ∀ (h' : i < R.length), RArg w q.v n R[i] := by
      intro i hi
      obtain ⟨n1, a1, k1, c1, n2, a2, k2, c2, p1, p2, p3, p4, pA⟩ := (h.at i (by omega)).1
      exact ⟨⟨n1, a1, k1, c1, n2, a2, k2, c2⟩, ⟨p1, p2, p3, p4⟩, fun _ => pA⟩
    obtain ⟨L, hL, hP⟩ := exL j hel
    refine ⟨L, by simp; omega, ⟨_, _, by rw [hL], .inr ⟨_, rfl, fun q u hu => ?_⟩⟩, fun i hi hi' => ?_⟩
    · have hlen := flat_len L
      obtain ⟨hq, -⟩ := List.getElem?_eq_some_iff.1 hu
      have hq4 : q / 4 < L.length := by omega
      obtain ⟨f0, f1, f2, f3⟩ := flat_get L (q / 4) hq4
      obtain ⟨c0, c1, c2, c3⟩ := (hP (q / 4) hq4).1
      simp only [Go.WideShapes.add_plain]
      have h4 : q % 4 = 0 ∨ q % 4 = 1 ∨ q % 4 = 2 ∨ q % 4 = 3 := by omega
      rcases h4 with h4 | h4 | h4 | h4
      · rw [show q / 4 * 4 = q by omega] at f0 c0
        rw [c0, ← f0, hu]
      · rw [show off + q / 4 * 4 + 1 = off + q by omega] at c1
        rw [show q / 4 * 4 + 1 = q by omega] at f1
        rw [c1, ← f1, hu]
      · rw [show off + q / 4 * 4 + 2 = off + q by omega] at c2
        rw [show q / 4 * 4 + 2 = q by omega] at f2
        rw [c2, ← f2, hu]
      · rw [show off + q / 4 * 4 + 3 = off + q by omega] at c3
        rw [show q / 4 * 4 + 3 = q by omega] at f3
        rw [c3, ← f3, hu]
    · rw [List.getElem_take]
      exact (hP i hi).2 _
theorem argSrc_one {w : World} {g n : Nat} {m7 m8 : Bool} {d7 d8 : Option Addr} {j7 e7 j8 e8 : Nat} {r : Rat} (h : Box4 w g (.bool m7) (.slice d7 j7 e7) (.bool m8) (.slice d8 j8 e8)) (hr : RArg w (.agg #[.bool m7, .slice d7 j7 e7, .bool m8, .slice d8 j8 e8]) n r) : ArgSrc w (.slice (some ⟨g, 0, none⟩) 1 1) n [r] :=
  ⟨[⟨m7, d7, j7, e7, m8, d8, j8, e8⟩], rfl, ⟨_, _, rfl, .inr ⟨_, rfl, news_one h⟩⟩, fun j hj hj' => by
    have : j = 0 := by simp at hj; omega
    subst this
    exact hr⟩

theorem wpList_append_arg {ops : Array Oper} {rest : List Oper} {o : Oper} {ac : Act} {w : World} {Q : Exit → Act → World → Prop}
    (hgd : o.guard = none) (s x : Operand) (hop : o.op = Op.call { callee := Callee.builtin Builtin.append, args := #[s, x], argTypes := #[48, 48] })
    (base n : Nat) (v xv : Value) (R S : List Rat) (hs : ac.eval s = v) (hx : ac.eval x = xv) (hO : OwnArg w base v n R) (hS : ArgSrc w xv n S) (k : Nat) (hk2 : k = R.length + S.length) (hk : k ≤ 1000000) (hbase : base ≤ w.heap.size)
    (hK : ∀ ro rc w', OwnArg w' base (.slice ro k rc) n (R ++ S) → w.grownBy w' v.ownBlock → wpList Try.prog ops Q rest (ac.put o.dst (.slice ro k rc)) w') : wpList Try.prog ops Q (o :: rest) ac w := by
  refine wpList_plain hgd fun K hK' => ?_
  obtain ⟨v', w', hrun, r1, r2⟩ := run_append_arg (w := w) o.type base n v xv R S hO hS (by omega) hbase
  obtain ⟨ro, rc, e, -⟩ := r1.qsl
  rw [List.length_append, ← hk2] at e
  subst e
  unfold Oper.wp
  simp [execOp, hop, resolve, invoke, builtin, hs, hx, hrun, Result.andThen]
  exact hK' _ _ (hK ro rc w' r1 r2)
theorem step_append_arg {ops : Array Oper} {o : Oper} {ac : Act} {w : World} {K : Act → World → Prop} {Q : Exit → Act → World → Prop} {E : Prop}
    (hgd : o.guard = none) (s x : Operand) (hop : o.op = Op.call { callee := Callee.builtin Builtin.append, args := #[s, x], argTypes := #[48, 48] })
    (base n : Nat) (v xv : Value) (R S : List Rat) (hs : ac.eval s = v) (hx : ac.eval x = xv) (hO : OwnArg w base v n R) (hS : ArgSrc w xv n S) (k : Nat) (hk2 : k = R.length + S.length) (hk : k ≤ 1000000) (hbase : base ≤ w.heap.size)
    (hK : ∀ ro rc w', OwnArg w' base (.slice ro k rc) n (R ++ S) → w.grownBy w' v.ownBlock → K (ac.put o.dst (.slice ro k rc)) w') :
    if Region.wanted o (yielded ops ac.tmps) = true then Oper.wp Try.prog o ac w K Q else E := by
  have hw : Region.wanted o (yielded ops ac.tmps) = true := by simp [Region.wanted, hgd]
  rw [if_pos hw]
  obtain ⟨v', w', hrun, r1, r2⟩ := run_append_arg (w := w) o.type base n v xv R S hO hS (by omega) hbase
  obtain ⟨ro, rc, e, -⟩ := r1.qsl
  rw [List.length_append, ← hk2] at e
  subst e
  unfold Oper.wp
  simp [execOp, hop, resolve, invoke, builtin, hs, hx, hrun, Result.andThen]
  exact hK ro rc w' r1 r2
theorem wpList_append_argz {ops : Array Oper} {rest : List Oper} {o : Oper} {ac : Act} {w : World} {Q : Exit → Act → World → Prop}
    (hgd : o.guard = none) (s x : Operand) (hop : o.op = Op.call { callee := Callee.builtin Builtin.append, args := #[s, x], argTypes := #[48, 3] })
    (base n : Nat) (v : Value) (R : List Rat) (k : Nat) (hs : ac.eval s = v) (hx : ac.eval x = .int .i64 (k : Int)) (hO : OwnArg w base v n R) (h0 : 0 < k) (m : Nat) (hm : m = R.length + k) (hk : m ≤ 1000000) (hbase : base ≤ w.heap.size)
    (hK : ∀ ro rc w', OwnArg w' base (.slice ro m rc) n (R ++ List.replicate k 0) → w.grownBy w' v.ownBlock → wpList Try.prog ops Q rest (ac.put o.dst (.slice ro m rc)) w') : wpList Try.prog ops Q (o :: rest) ac w := by
  refine wpList_plain hgd fun K hK' => ?_
  obtain ⟨v', w', hrun, r1, r2⟩ := run_append_argz (w := w) o.type base n v R hO k h0 (by omega) hbase
  obtain ⟨ro, rc, e, -⟩ := r1.qsl
  rw [List.length_append, List.length_replicate, ← hm] at e
  subst e
  unfold Oper.wp
  simp [execOp, hop, resolve, invoke, builtin, hs, hx, hrun, Result.andThen]
  exact hK' _ _ (hK ro rc w' r1 r2)

/-- A row stays while another block without limbs is written. -/
theorem QSl.off' {W W' : World} {v : Value} {n g : Nat} {R : List Rat} (h : QSl W v n R) (hne : R = [] ∨ v.ownBlock ≠ some g) (hno : NoLimb W g) (hW : W.grownBy W' (some g)) : QSl W' v n R := by
  obtain ⟨ao, k, cap, rfl, hk, h1, h2, h3⟩ := h
  refine ⟨ao, k, cap, rfl, hk, h1, h2, ?_⟩
  rcases h3 with h3 | ⟨b, o, rfl, hlt, hc⟩
  · exact .inl h3
  · by_cases h0 : R.length = 0
    · exact .inl h0
    · have hb : b ≠ g := by
        rcases hne with hne | hne
        · exact absurd (by rw [hne]; rfl) h0
        · simpa [Value.ownBlock] using hne
      refine .inr ⟨b, o, rfl, Nat.lt_of_lt_of_le hlt hW.size, fun i hi => ?_⟩
      obtain ⟨n1, a1, k1, c1, n2, a2, k2, c2, q1, q2, q3, q4, q5⟩ := hc i hi
      exact ⟨n1, a1, k1, c1, n2, a2, k2, c2, hW.cell q1 (by simpa using hb), hW.cell q2 (by simpa using hb), hW.cell q3 (by simpa using hb), hW.cell q4 (by simpa using hb), q5.offL hno hW⟩
theorem QSl.none' {W W' : World} {v : Value} {n : Nat} {R : List Rat} (h : QSl W v n R) (hW : W.grownBy W' none) : QSl W' v n R :=
  h.below ⟨hW.os, hW.tape, hW.output, hW.size, fun k hk => hW.block k hk (by simp)⟩
theorem QSl.blk {W : World} {v : Value} {n : Nat} {R : List Rat} (h : QSl W v n R) : R = [] ∨ ∃ b, v.ownBlock = some b ∧ b < W.heap.size := by
  obtain ⟨ao, k, cap, rfl, hk, h1, h2, h3⟩ := h
  rcases h3 with h3 | ⟨b, o, rfl, hlt, hc⟩
  · exact .inl (List.eq_nil_of_length_eq_zero h3)
  · exact .inr ⟨b, rfl, hlt⟩

/-- A table of one's own, whose rows may be handed in. -/
def OwnTab (w : World) (base : Nat) (v : Value) (n : Nat) (M : List (List Rat)) : Prop := ∃ vs : List Value, vs.length = M.length ∧ w.ownsRow base 48 1 v M.length vs ∧ (∀ g, v.ownBlock = some g → NoLimb w g) ∧ ∀ j (h : j < vs.length) (h' : j < M.length), QSl w vs[j] n M[j] ∧ (M[j] = [] ∨ vs[j].ownBlock ≠ v.ownBlock)
theorem OwnTab.nil (w : World) (base n : Nat) : OwnTab w base (.slice none 0 0) n [] := ⟨[], rfl, World.ownsRow_nil _ _ _ _, by simp [Value.ownBlock], fun j h => by simp at h⟩
theorem OwnTab.below {w w' : World} {base n : Nat} {v : Value} {M : List (List Rat)} (h : OwnTab w base v n M) (hb : Below w.heap.size w w') : OwnTab w' base v n M := by
  obtain ⟨vs, h1, h2, h3, h4⟩ := h
  have hg : w.grownBy w' none := ⟨hb.os, hb.tape, hb.output, hb.size, fun k hk _ => hb.block k hk⟩
  refine ⟨vs, h1, h2.kept hg (by cases hv : v.ownBlock with | none => exact .inl rfl | some g => exact .inr (by simp)), fun g hv j z => ?_, fun j hj hj' => ⟨(h4 j hj hj').1.below hb, (h4 j hj hj').2⟩⟩
  rw [bcells hb g j (h2.lt g hv).2]
  exact h3 g hv j z
theorem OwnTab.lt {w : World} {base n : Nat} {v : Value} {M : List (List Rat)} (h : OwnTab w base v n M) : ∀ g, v.ownBlock = some g → base ≤ g ∧ g < w.heap.size := by
  obtain ⟨vs, h1, h2, h3, h4⟩ := h
  exact fun g hg => h2.lt g hg
theorem OwnTab.qtab {w : World} {base n : Nat} {v : Value} {M : List (List Rat)} (h : OwnTab w base v n M) : ∃ ao cap, v = .slice ao M.length cap ∧ QTab w ao cap n M := by
  obtain ⟨vs, h1, h2, h3, h4⟩ := h
  rcases h2.2 with ⟨rfl, h0⟩ | ⟨g, cap, cur, rfl, hbg, hg, hnc, hcm, hcs, htake⟩
  · exact ⟨none, 0, by rw [h0], by omega, by unfold maxLen; omega, .inl h0⟩
  · refine ⟨_, cap, rfl, hnc, hcm, .inr ⟨g, 0, rfl, (Array.getElem?_eq_some_iff.1 hg).1, fun i hi => ?_⟩⟩
    have hi' : i < vs.length := by omega
    have hc := h2.cellAt i (by omega)
    obtain ⟨a, k, c, e, h5, h6⟩ := (h4 i hi' hi).1
    rw [List.getElem?_eq_getElem hi', e] at hc
    exact ⟨a, k, c, by rw [Nat.zero_add]; exact hc, a, k, c, rfl, h5, h6⟩
theorem zero1_no (n : Nat) : ∀ u ∈ (Builtin.zeroCells (Value.slice none 0 0).cells n).toList, ∀ z, u ≠ .int .u32 z := by
  intro u hu z
  have hcells : (Value.slice none 0 0).cells = #[.slice none 0 0] := rfl
  rw [hcells] at hu
  unfold Builtin.zeroCells at hu
  simp only [Array.toList_map, List.mem_map] at hu
  obtain ⟨x, -, rfl⟩ := hu
  have h4 : x % (#[Value.slice none 0 0] : Array Value).size = 0 := by simp; omega
  rw [h4]
  simp
theorem run_append_tab {w : World} (ty : TypeId) (base n : Nat) (v : Value) (M : List (List Rat)) (hO : OwnTab w base v n M) (gx : Nat) (rv : Value) (R : List Rat) (hx : w.cell? ⟨gx, 0, none⟩ = some rv) (hr : QSl w rv n R) (hne : R = [] ∨ v.ownBlock = none ∨ rv.ownBlock ≠ v.ownBlock) (hk : M.length ≤ 1000) (hbase : base ≤ w.heap.size) :
    ∃ v' w', (Builtin.append_ #[47, 47] ty #[v, .slice (some ⟨gx, 0, none⟩) 1 1]).run Try.prog w = .ok v' w' ∧ OwnTab w' base v' n (M ++ [R]) ∧ w.grownBy w' v.ownBlock := by
  obtain ⟨i0, hi, hz0, hz1, hz2⟩ := info_parts Try.infoRow
  obtain ⟨vs, h1, h2, h3, h4⟩ := hO
  obtain ⟨ra, rk, rc, rfl, -⟩ := id hr
  have hnews : ∀ j u, ([Value.slice ra rk rc] : List Value)[j]? = some u → w.cell? ((⟨gx, 0, none⟩ : Addr).add j) = some u := by
    intro j u hu
    match j, hu with
    | 0, hu => simp at hu; subst hu; simpa [Addr.add] using hx
    | j + 1, hu => simp at hu
  have hone : ∀ u ∈ ([Value.slice ra rk rc] : List Value), u.oneCell' = true := by
    intro u hu
    simp at hu
    subst hu
    rfl
  have hby : (M.length + 1) * 24 ≤ 140737488355328 := by omega
  obtain ⟨v', w', hrun, o1, o2, -⟩ := run_append_own (P := Try.prog) w base 47 ty 48 i0 _ 1 24 Try.underlying47 hi hz0 hz1 hz2 rfl (by decide) v M.length vs h2 ⟨gx, 0, none⟩ 1 1 [.slice ra rk rc] rfl hnews hone (by unfold maxLen; omega) hby hbase
  have hold : ∀ u (S : List Rat), QSl w u n S → (S = [] ∨ v.ownBlock = none ∨ u.ownBlock ≠ v.ownBlock) → QSl w' u n S := by
    intro u S hS hn
    cases hv : v.ownBlock with
    | none => rw [hv] at o2; exact hS.none' o2
    | some g =>
      rw [hv] at o2 hn
      exact hS.off' (by rcases hn with hn | hn | hn; exact .inl hn; simp at hn; exact .inr hn) (h3 g hv) o2
  have key : (∀ g, v'.ownBlock = some g → NoLimb w' g) ∧ (v'.ownBlock = v.ownBlock ∨ v'.ownBlock = some w.heap.size) := by
    rcases h2.2 with ⟨rfl, h0⟩ | ⟨g0, cap, cur, rfl, hbg, hg, hnc, hcm, hcs, htake⟩
    · have hvs : vs = [] := List.eq_nil_of_length_eq_zero (by omega)
      subst hvs
      have e := run_append_nil (P := Try.prog) w 47 ty 48 i0 _ Try.underlying47 hi hz0 ⟨gx, 0, none⟩ 1 1 [.slice ra rk rc] (by rw [hz1]; rfl) hnews (by omega) (by omega) (by rw [hz2]; omega)
      rw [e] at hrun
      simp only [Result.ok.injEq] at hrun
      obtain ⟨rfl, rfl⟩ := hrun
      refine ⟨fun g hv => ?_, .inr rfl⟩
      simp only [Value.ownBlock, Option.some.injEq] at hv
      subst hv
      refine noLimb_of (heap_alloc_new w.drew _) ?_
      intro u hu z
      simp only [Array.toList_append, List.mem_append] at hu
      rcases hu with hu | hu
      · simp at hu; subst hu; simp
      · exact zero1_no _ u hu z
    · have hno : ∀ u ∈ cur.toList, ∀ z, u ≠ .int .u32 z := by
        intro u hu z e
        obtain ⟨j, hj, rfl⟩ := List.getElem_of_mem hu
        refine h3 g0 rfl j z ?_
        rw [cell_of_row w g0 j cur _ _ hg, Array.getElem?_eq_getElem (by simpa using hj)]
        simpa using e
      by_cases hroom : M.length + 1 ≤ cap
      · have e := run_append_room (P := Try.prog) w 47 ty 48 i0 Try.underlying47 hi g0 M.length cap cur hg ⟨gx, 0, none⟩ 1 1 [.slice ra rk rc] (by rw [hz1]; rfl) hnews hone hroom (by rw [hz1]; simp; omega)
        rw [e] at hrun
        simp only [Result.ok.injEq] at hrun
        obtain ⟨rfl, rfl⟩ := hrun
        refine ⟨fun g hv => ?_, .inl rfl⟩
        simp only [Value.ownBlock, Option.some.injEq] at hv
        subst hv
        refine noLimb_of (setRow_heap w g0 cur _ _ _ hg) ?_
        intro u hu z
        simp only [List.mem_append] at hu
        rcases hu with (hu | hu) | hu
        · exact hno u (List.mem_of_mem_take hu) z
        · simp at hu; subst hu; simp
        · exact hno u (List.mem_of_mem_drop hu) z
      · have holds : ∀ j u, vs[j]? = some u → w.cell? ((⟨g0, 0, none⟩ : Addr).add j) = some u := h2.cells (g := g0) rfl
        have e := run_append_grow (P := Try.prog) w 47 ty 48 i0 _ Try.underlying47 hi hz0 ⟨g0, 0, none⟩ M.length cap vs (by rw [hz1]; omega) holds ⟨gx, 0, none⟩ 1 1 [.slice ra rk rc] (by rw [hz1]; rfl) hnews (by omega) (by omega) (growslice_fits (by omega) (by rw [hz2]; exact hby))
        rw [e] at hrun
        simp only [Result.ok.injEq] at hrun
        obtain ⟨rfl, rfl⟩ := hrun
        refine ⟨fun g hv => ?_, .inr rfl⟩
        simp only [Value.ownBlock, Option.some.injEq] at hv
        subst hv
        refine noLimb_of (heap_alloc_new w.drew _) ?_
        intro u hu z
        simp only [Array.toList_append, List.mem_append] at hu
        rcases hu with (hu | hu) | hu
        · obtain ⟨j, hj, rfl⟩ := List.getElem_of_mem (show u ∈ vs by simpa using hu)
          obtain ⟨a, k, c, e, -⟩ := (h4 j hj (by omega)).1
          rw [e]
          simp
        · simp at hu; subst hu; simp
        · exact zero1_no _ u hu z
  have hblk : ∀ u (S : List Rat), QSl w u n S → (S = [] ∨ v.ownBlock = none ∨ u.ownBlock ≠ v.ownBlock) → (S = [] ∨ u.ownBlock ≠ v'.ownBlock) := by
    intro u S hS hn
    by_cases hS0 : S = []
    · exact .inl hS0
    rcases hS.blk with h | ⟨b, hb, hlt⟩
    · exact .inl h
    · right
      rcases key.2 with e | e
      · rw [e]
        rcases hn with hn | hn | hn
        · exact absurd hn hS0
        · rw [hn, hb]; simp
        · exact hn
      · rw [e, hb]
        simp
        omega
  refine ⟨v', w', hrun, ⟨vs ++ [.slice ra rk rc], by simp [h1], by simpa using o1, key.1, fun j hj hj' => ?_⟩, o2⟩
  by_cases hl : j < vs.length
  · rw [List.getElem_append_left hl, List.getElem_append_left (by omega)]
    obtain ⟨q1, q2⟩ := h4 j hl (by omega)
    have q3 : M[j] = [] ∨ v.ownBlock = none ∨ vs[j].ownBlock ≠ v.ownBlock := by rcases q2 with q2 | q2; exact .inl q2; exact .inr (.inr q2)
    exact ⟨hold _ _ q1 q3, hblk _ _ q1 q3⟩
  · simp at hj
    have : j = vs.length := by omega
    subst this
    rw [List.getElem_append_right (by omega), List.getElem_append_right (by omega)]
    simp only [Nat.sub_self, h1, List.getElem_cons_zero]
    exact ⟨hold _ _ hr hne, hblk _ _ hr hne⟩
theorem wpList_append_tab {ops : Array Oper} {rest : List Oper} {o : Oper} {ac : Act} {w : World} {Q : Exit → Act → World → Prop}
    (hgd : o.guard = none) (s x : Operand) (hop : o.op = Op.call { callee := Callee.builtin Builtin.append, args := #[s, x], argTypes := #[47, 47] })
    (base n : Nat) (v : Value) (M : List (List Rat)) (gx : Nat) (rv : Value) (R : List Rat) (hs : ac.eval s = v) (hx : ac.eval x = .slice (some ⟨gx, 0, none⟩) 1 1) (hO : OwnTab w base v n M) (hc : w.cell? ⟨gx, 0, none⟩ = some rv) (hr : QSl w rv n R) (hne : R = [] ∨ v.ownBlock = none ∨ rv.ownBlock ≠ v.ownBlock) (k : Nat) (hk2 : k = M.length + 1) (hk : k ≤ 1000) (hbase : base ≤ w.heap.size)
    (hK : ∀ ro rc w', OwnTab w' base (.slice ro k rc) n (M ++ [R]) → w.grownBy w' v.ownBlock → wpList Try.prog ops Q rest (ac.put o.dst (.slice ro k rc)) w') : wpList Try.prog ops Q (o :: rest) ac w := by
  refine wpList_plain hgd fun K hK' => ?_
  obtain ⟨v', w', hrun, r1, r2⟩ := run_append_tab (w := w) o.type base n v M hO gx rv R hc hr hne (by omega) hbase
  obtain ⟨ro, rc, e, -⟩ := r1.qtab
  rw [List.length_append, List.length_singleton, ← hk2] at e
  subst e
  unfold Oper.wp
  simp [execOp, hop, resolve, invoke, builtin, hs, hx, hrun, Result.andThen]
  exact hK' _ _ (hK ro rc w' r1 r2)

end Go.Proofs.Ytkoadlacdgdemaa

namespace Go.Proofs.Ytkoadlacdgdemaa
open Go.RowKit Lm
set_option linter.unusedSimpArgs false
set_option linter.unusedVariables false
set_option maxRecDepth 100000

theorem rawTab1 {W0 : World} {g : Nat} (hg : g = W0.heap.size) {a : Option Addr} {k1 c1 : Nat} {A : List RQ} (e1 : k1 = A.length) (h1 : RawRow W0 a c1 A) : RawTab (W0.alloc (.cells #[.slice a k1 c1] 48)) (some ⟨g, 0, none⟩) 1 [A] := by
  subst hg
  have h := heap_alloc_new W0 (.cells #[.slice a k1 c1] 48)
  have hb : Below W0.heap.size W0 (W0.alloc (.cells #[.slice a k1 c1] 48)) := (Below.refl _ _).alloc (Nat.le_refl _) _
  refine ⟨Nat.le_refl _, by unfold maxLen; omega, .inr ⟨W0.heap.size, 0, rfl, (Array.getElem?_eq_some_iff.1 h).1, fun i hi => ?_⟩⟩
  simp at hi
  subst hi
  exact ⟨_, _, _, by rw [cell_of_row _ _ _ _ _ _ h]; rfl, e1, h1.below hb⟩
theorem qtab1 {W : World} {g n : Nat} {u : Value} {A : List Rat} (h : W.heap[g]? = some (.cells #[u] 48 (0, 0))) (hu : QSl W u n A) : QTab W (some ⟨g, 0, none⟩) 1 n [A] := by
  refine ⟨Nat.le_refl _, by unfold maxLen; omega, .inr ⟨g, 0, rfl, (Array.getElem?_eq_some_iff.1 h).1, fun i hi => ?_⟩⟩
  simp at hi
  subst hi
  obtain ⟨a, k, c, rfl, h1, h2⟩ := hu
  exact ⟨a, k, c, by rw [cell_of_row _ _ _ _ _ _ h]; rfl, a, k, c, rfl, h1, h2⟩
theorem qtab2 {W : World} {g n : Nat} {u v : Value} {A B : List Rat} (h : W.heap[g]? = some (.cells #[u, v] 48 (0, 0))) (hu : QSl W u n A) (hv : QSl W v n B) : QTab W (some ⟨g, 0, none⟩) 2 n [A, B] := by
  refine ⟨Nat.le_refl _, by unfold maxLen; omega, .inr ⟨g, 0, rfl, (Array.getElem?_eq_some_iff.1 h).1, fun i hi => ?_⟩⟩
  obtain ⟨a, k, c, rfl, h1, h2⟩ := hu
  obtain ⟨b, j, d, rfl, h3, h4⟩ := hv
  simp at hi
  rcases (show i = 0 ∨ i = 1 by omega) with rfl | rfl
  · exact ⟨a, k, c, by rw [cell_of_row _ _ _ _ _ _ h]; rfl, a, k, c, rfl, h1, h2⟩
  · exact ⟨b, j, d, by rw [cell_of_row _ _ _ _ _ _ h]; rfl, b, j, d, rfl, h3, h4⟩
theorem grown_below {w W W' : World} {B : Nat} {v : Value} {R : List Rat} {base n : Nat} (h : Below B w W) (hO : OwnArg W base v n R) (hg : W.grownBy W' v.ownBlock) (hB : B ≤ base) (hs : B ≤ W.heap.size) : Below B w W' :=
  h.grown hg hs (fun q e => by have := (hO.lt q e).1; omega)

set_option maxHeartbeats 6400000 in
theorem vecLong_any (w : World) (ao : Option Addr) (ka ca : Nat) (LA : List RQ) (m1 : Bool) (d1 : Option Addr) (e1 : Nat) (t1 : List Nat) (m2 : Bool) (d2 : Option Addr) (e2 : Nat) (t2 : List Nat) (z : Int) (hka : ka = LA.length) (hA : RawRow w ao ca LA) (h1 : SlAt w d1 e1 t1) (h2 : SlAt w d2 e2 t2) (hz0 : 0 ≤ z) (hz1 : z ≤ 255) :
    Calls Try.prog 8 #[.slice ao ka ca, .agg #[.bool m1, .slice d1 t1.length e1, .bool m2, .slice d2 t2.length e2], .int .u8 z] w fun e w' => e = .returned (.bool true) ∧ Below w.heap.size w w' := by
  clear h1 h2
  generalize t1.length = T1 at *
  generalize t2.length = T2 at *
  obtain ⟨j, rfl⟩ : ∃ j : Nat, z = j := ⟨z.toNat, by omega⟩
  have fa : ka ≤ 9223372036854775807 := by have := hA.lenm; omega
  have HLA := hid hka
  have HA := hid hA
  obtain ⟨q, hq⟩ : ∃ q : Nat, q = 1 + j % 5 := ⟨_, rfl⟩
  have hqi : (1 : Int) + (j : Int) % 5 = (q : Int) := by omega
  have hq1 : 1 ≤ q ∧ q ≤ 5 := by omega
  obtain ⟨hq1, hq2⟩ := hq1
  clear hA hka hq
  go_enter Try.func8, Try.ntmps8
  go_wp2_with fail
  have hW0 : Below w.heap.size w (w.alloc (.cells #[.bool m1, .slice d1 T1 e1, .bool m2, .slice d2 T2 e2] 37)) := (by repeat (first | exact Below.refl _ _ | refine Below.alloc ?_ ?_ _ | refine Below.setCell ?_ ?_ _ | refine Below.drew ?_ | refine below_drewN ?_ _ | (· simp) | omega | (· simp; omega) | exact Below.size (by assumption) | assumption | refine below_call ?_ (by assumption) ?_))
  have hW1 : Below w.heap.size w ((w.alloc (.cells #[.bool m1, .slice d1 T1 e1, .bool m2, .slice d2 T2 e2] 37)).alloc (.cells #[.slice ao ka ca] 48)) := (by repeat (first | exact Below.refl _ _ | refine Below.alloc ?_ ?_ _ | refine Below.setCell ?_ ?_ _ | refine Below.drew ?_ | refine below_drewN ?_ _ | (· simp) | omega | (· simp; omega) | exact Below.size (by assumption) | assumption | refine below_call ?_ (by assumption) ?_))
  have bT : Box4 ((w.alloc (.cells #[.bool m1, .slice d1 T1 e1, .bool m2, .slice d2 T2 e2] 37)).alloc (.cells #[.slice ao ka ca] 48)) w.heap.size (.bool m1) (.slice d1 T1 e1) (.bool m2) (.slice d2 T2 e2) := (Box4.new _ _ _ _ _ _ rfl).alloc _
  have hTab := rawTab1 (W0 := w.alloc (.cells #[.bool m1, .slice d1 T1 e1, .bool m2, .slice d2 T2 e2] 37)) (g := w.heap.size + 1) (by simp) HLA.out (HA.out.below hW0)
  generalize (w.alloc (.cells #[.bool m1, .slice d1 T1 e1, .bool m2, .slice d2 T2 e2] 37)).alloc (.cells #[.slice ao ka ca] 48) = W1 at *
  refine (great4_any _ _ _ _ [LA] rfl hTab).mono ?_
  rintro e W2 ⟨b, rfl, hsm, rfl⟩
  clear hTab hW0
  cases b
  · have HS := hid (hsm rfl)
    have hks : ka ≤ 199 := by
      have := HS.out.1
      have e1 := HLA.out
      simp [rowSum] at this
      omega
    have hAq : QSl W2 (.slice ao ka ca) 6 (LA.map RQ.r) := ⟨_, _, _, rfl, by rw [List.length_map]; exact HLA.out, (HA.out.below hW1).qat (HS.out.2 LA (by simp))⟩
    have HNA : Hid ((LA.map RQ.r).length = ka) := hid (by rw [List.length_map]; exact HLA.out.symm)
    generalize LA.map RQ.r = A at *
    clear hsm HS HA HLA
    have hA3 : Below W2.heap.size W2 (W2.alloc (.cells #[] 37)) := (by repeat (first | exact Below.refl _ _ | refine Below.alloc ?_ ?_ _ | refine Below.setCell ?_ ?_ _ | refine Below.drew ?_ | refine below_drewN ?_ _ | (· simp) | omega | (· simp; omega) | exact Below.size (by assumption) | assumption | refine below_call ?_ (by assumption) ?_))
    have hO3 : OwnArg (W2.alloc (.cells #[] 37)) W2.heap.size (.slice (some ⟨W2.heap.size, 0, none⟩) 0 0) 6 [] := OwnArg.lit (Nat.le_refl _) rfl
    have hS3 : ArgSrc (W2.alloc (.cells #[] 37)) (.slice ao ka ca) 6 A := by
      have h := (qsl_at (hAq.below hA3)).2.src ka (by rw [HNA.out]; exact Nat.le_refl _)
      rw [List.take_of_length_le (Nat.le_of_eq HNA.out)] at h
      exact h
    have HO3 := hid hO3
    have HS3 := hid hS3
    have HAq := hid hAq
    clear hO3 hS3 hAq
    go_wp2_with (at_builtin; first
      | (refine wpList_append_arg rfl _ _ rfl W2.heap.size 6 _ _ [] A rfl rfl HO3.out HS3.out ka (by rw [HNA.out]; simp) (by omega) hA3.size ?_; intro ro4 rc4 w4 hO4 hg4; have hA4 := grown_below hA3 HO3.out hg4 (Nat.le_refl _) hA3.size; have HO4 := hid hO4; clear hO4 hg4)
      | (go_must (refine wpList_append_argz rfl _ _ rfl W2.heap.size 6 _ A q rfl rfl HO4.out (by omega) (ka + q) (by rw [HNA.out]) (by omega) hA4.size ?_); intro ro5 rc5 w5 hO5 hg5; have hA5 := grown_below hA4 HO4.out hg5 (Nat.le_refl _) hA4.size; have HO5 := hid hO5; clear hO5 hg5))
    have hBq : QSl w5 (.slice ro5 (ka + q) rc5) 6 (A ++ List.replicate q 0) := by
      obtain ⟨_, _, _, h, -⟩ := HO5.out.qsl
      exact h
    have HAq5 := hid (HAq.out.below hA5)
    have HBq := hid hBq
    have HWB : Hid (wide [A ++ List.replicate q 0] (ka : Int) = false) := hid (by
      simp [wide, HNA.out]
      omega)
    have HWAB : Hid (wide [A, A ++ List.replicate q 0] (ka : Int) = false) := hid (by
      simp [wide, HNA.out]
      omega)
    generalize A ++ List.replicate q 0 = B at *
    generalize hkb : ka + q = kb at *
    have hab : ka ≠ kb := by omega
    have hba : kb ≠ ka := by omega
    have fb : kb ≤ 9223372036854775807 := by omega
    have hW5 := below_call hW1 hA5 hW1.size
    replace bT := bT.keep hA5
    clear HO3 HS3 HAq HO4 hA4 HO5 hA5 hA3 hBq hkb
    go_wp2_with fail
    refine (vdot_no _ _ _ _ _ _ _ hab fa fb).mono ?_
    rintro e W6 ⟨rfl, hb6⟩
    have hW6 := (below_call hW5 hb6 hW5.size).alloc (below_call hW5 hb6 hW5.size).size (.cells #[.bool false, .slice none 0 0, .bool false, .slice none 0 0] 37)
    have hs6 := hb6.alloc hb6.size (.cells #[.bool false, .slice none 0 0, .bool false, .slice none 0 0] 37)
    replace bT := (bT.keep hb6).alloc (.cells #[.bool false, .slice none 0 0, .bool false, .slice none 0 0] 37)
    have bD : Box4 (W6.alloc (.cells #[.bool false, .slice none 0 0, .bool false, .slice none 0 0] 37)) W6.heap.size (.bool false) (.slice none 0 0) (.bool false) (.slice none 0 0) := Box4.new _ _ _ _ _ _ rfl
    replace HAq5 := hid (HAq5.out.below hs6)
    replace HBq := hid (HBq.out.below hs6)
    clear hb6 hW5 hs6
    (try clear x0 x1 x2 x3 lT); obtain ⟨x0, x1, x2, x3⟩ := bT.c; have lT := bT.lt
    go_wp2_with fail
    refine (plus_no _ _ _ _ _ _ _ _ _ _ _ _ _ _ _ hba fb fa).mono ?_
    rintro e W7 ⟨rfl, hb7⟩
    have hW7 := below_call hW6 hb7 hW6.size
    have hs7 := hb7.alloc hb7.size (.cells #[.slice ao ka ca, .slice ro5 kb rc5] 48)
    have HT7 := hid (qtab2 (heap_alloc_new W7 (.cells #[.slice ao ka ca, .slice ro5 kb rc5] 48)) (HAq5.out.below hs7) (HBq.out.below hs7))
    have hW7a := hW7.alloc hW7.size (.cells #[.slice ao ka ca, .slice ro5 kb rc5] 48)
    replace bT := (bT.keep hb7).alloc (.cells #[.slice ao ka ca, .slice ro5 kb rc5] 48)
    replace bD := (bD.keep hb7).alloc (.cells #[.slice ao ka ca, .slice ro5 kb rc5] 48)
    replace HAq5 := hid (HAq5.out.below hs7)
    replace HBq := hid (HBq.out.below hs7)
    clear hb7 hW6 hs7 hW7 x0 x1 x2 x3 lT
    go_wp2_with fail
    refine (Times_no _ _ _ _ _ _ _ 6 [A, B] rfl HT7.out fa HWAB.out).mono ?_
    rintro e W8 ⟨rfl, hb8⟩
    have hW8 := below_call hW7a hb8 hW7a.size
    replace bT := bT.keep hb8
    replace bD := bD.keep hb8
    replace HAq5 := hid (HAq5.out.below hb8)
    replace HBq := hid (HBq.out.below hb8)
    clear hb8 hW7a HT7
    have hs8 : Below W8.heap.size W8 ((W8.alloc (.cells #[.bool m1, .slice d1 T1 e1, .bool m2, .slice d2 T2 e2] 37)).alloc (.cells #[.slice ro5 kb rc5] 48)) := (by repeat (first | exact Below.refl _ _ | refine Below.alloc ?_ ?_ _ | refine Below.setCell ?_ ?_ _ | refine Below.drew ?_ | refine below_drewN ?_ _ | (· simp) | omega | (· simp; omega) | exact Below.size (by assumption) | assumption | refine below_call ?_ (by assumption) ?_))
    have HT8 : Hid (QTab ((W8.alloc (.cells #[.bool m1, .slice d1 T1 e1, .bool m2, .slice d2 T2 e2] 37)).alloc (.cells #[.slice ro5 kb rc5] 48)) (some ⟨W8.heap.size + 1, 0, none⟩) 1 6 [B]) := hid (by
      rw [← asize W8 (.cells #[.bool m1, .slice d1 T1 e1, .bool m2, .slice d2 T2 e2] 37)]
      exact qtab1 (heap_alloc_new (W8.alloc (.cells #[.bool m1, .slice d1 T1 e1, .bool m2, .slice d2 T2 e2] 37)) (.cells #[.slice ro5 kb rc5] 48)) (HBq.out.below hs8))
    have hW8a := below_call hW8 hs8 hW8.size
    (try clear x0 x1 x2 x3 lT); obtain ⟨x0, x1, x2, x3⟩ := bT.c; have lT := bT.lt
    go_wp2_with fail
    refine (Left_no _ _ _ _ _ _ _ 6 _ [B] rfl (by omega) HT8.out (.inr (.inr (.inr HWB.out)))).mono ?_
    rintro e W9 ⟨rfl, hb9⟩
    have hs9 := below_call hs8 hb9 hs8.size
    have hW9 := below_call hW8 hs9 hW8.size
    replace bT := bT.keep hs9
    replace bD := bD.keep hs9
    replace HAq5 := hid (HAq5.out.below hs9)
    clear hb9 hW8 hs8 hW8a HT8 hs9
    have hs9 : Below W9.heap.size W9 ((W9.alloc (.cells #[.bool m1, .slice d1 T1 e1, .bool m2, .slice d2 T2 e2] 37)).alloc (.cells #[.slice ao ka ca, .slice ao ka ca] 48)) := (by repeat (first | exact Below.refl _ _ | refine Below.alloc ?_ ?_ _ | refine Below.setCell ?_ ?_ _ | refine Below.drew ?_ | refine below_drewN ?_ _ | (· simp) | omega | (· simp; omega) | exact Below.size (by assumption) | assumption | refine below_call ?_ (by assumption) ?_))
    have HT9 : Hid (QTab ((W9.alloc (.cells #[.bool m1, .slice d1 T1 e1, .bool m2, .slice d2 T2 e2] 37)).alloc (.cells #[.slice ao ka ca, .slice ao ka ca] 48)) (some ⟨W9.heap.size + 1, 0, none⟩) 2 6 [A, A]) := hid (by
      rw [← asize W9 (.cells #[.bool m1, .slice d1 T1 e1, .bool m2, .slice d2 T2 e2] 37)]
      exact qtab2 (heap_alloc_new (W9.alloc (.cells #[.bool m1, .slice d1 T1 e1, .bool m2, .slice d2 T2 e2] 37)) (.cells #[.slice ao ka ca, .slice ao ka ca] 48)) (HAq5.out.below hs9) (HAq5.out.below hs9))
    (try clear x0 x1 x2 x3 lT); obtain ⟨x0, x1, x2, x3⟩ := bT.c; have lT := bT.lt
    go_wp2_with fail
    refine (Left_no _ _ _ _ _ _ _ 6 _ [A, A] rfl (by omega) HT9.out (.inr (.inr (.inl (by simp))))).mono ?_
    rintro e WA ⟨rfl, hbA⟩
    have hsA := below_call hs9 hbA hs9.size
    have hWA := below_call hW9 hsA hW9.size
    replace bD := bD.keep hsA
    clear x0 x1 x2 x3 lT hbA hs9 hW9 HT9 hsA bT HAq5 HBq
    go_wp2_with fail
    refine (ve_num (VE.none _) _).mono ?_
    rintro e WB ⟨rfl, -, hbB⟩
    have hWB := below_call hWA hbB hWA.size
    obtain ⟨y0, y1, y2, y3⟩ := (bD.keep hbB).c
    have lD := (bD.keep hbB).lt
    clear hbB hWA bD
    go_wp2_with fail
    clear y0 y1 y2 y3 lD
    refine (ve_num (VE.none _) _).mono ?_
    rintro e WC ⟨rfl, -, hbWC⟩
    have hWC := below_call hWB hbWC hWB.size
    clear hbWC hWB
    go_wp2_with fail
    refine (ve_num (VE.none _) _).mono ?_
    rintro e WD ⟨rfl, -, hbWD⟩
    have hWD := below_call hWC hbWD hWC.size
    clear hbWD hWC
    go_wp2_with fail
    refine (ve_num (VE.none _) _).mono ?_
    rintro e WE ⟨rfl, -, hbWE⟩
    have hWE := below_call hWD hbWE hWD.size
    clear hbWE hWD
    go_wp2_with fail
    refine (ve_num (VE.none _) _).mono ?_
    rintro e WF ⟨rfl, -, hbWF⟩
    have hWF := below_call hWE hbWF hWE.size
    clear hbWF hWE
    go_wp2_with fail
    refine (awake4_any _).mono ?_
    rintro e WG ⟨rfl, hbG⟩
    have HR := hid (below_call hWF hbG hWF.size)
    clear hbG hWF
    go_wp2
    go_ret
    exact ⟨rfl, HR.out⟩
  · have HB3 := hid hW1
    clear hW1 HA bT hsm
    go_wp2_with fail
    refine (awake4_any _).mono ?_
    rintro e W4 ⟨rfl, hb⟩
    have HR := hid (below_call HB3.out hb HB3.out.size)
    go_wp2
    go_ret
    exact ⟨rfl, HR.out⟩

end Go.Proofs.Ytkoadlacdgdemaa

namespace Go.Proofs.Ytkoadlacdgdemaa
open Go.RowKit Lm
set_option linter.unusedSimpArgs false
set_option linter.unusedVariables false
set_option maxRecDepth 100000

/-- A row of n numbers: what is there, and then the places' own numbers. -/
def cutI (R : List Rat) (n i : Nat) : List Rat := R.take n ++ (List.range' R.length i).map (fun j => (((j : Nat) : Int) : Rat))
def cutR (R : List Rat) (n : Nat) : List Rat := cutI R n (n - R.length)
def cutT (M : List (List Rat)) (n : Nat) : List (List Rat) := M.map (fun R => cutR R n)
theorem cutI_len (R : List Rat) (n i : Nat) : (cutI R n i).length = min n R.length + i := by simp [cutI]
theorem cutI_zero (R : List Rat) (n : Nat) : cutI R n 0 = R.take n := by simp [cutI]
theorem cutI_next (R : List Rat) (n i : Nat) : cutI R n (i + 1) = cutI R n i ++ [(((R.length + i : Nat) : Int) : Rat)] := by
  unfold cutI
  rw [List.range'_concat, List.map_append, List.append_assoc]
  simp
theorem cutR_len (R : List Rat) (n : Nat) : (cutR R n).length = n := by rw [cutR, cutI_len]; omega
theorem cutT_len (M : List (List Rat)) (n : Nat) : (cutT M n).length = M.length := by simp [cutT]
theorem cutT_wide (M : List (List Rat)) (n : Nat) : ∀ R ∈ cutT M n, R.length = n := by
  intro R hR
  obtain ⟨S, -, rfl⟩ := List.mem_map.1 hR
  exact cutR_len S n
theorem cutT_next {M : List (List Rat)} {i : Nat} (n : Nat) (h : i < M.length) : cutT (M.take (i + 1)) n = cutT (M.take i) n ++ [cutR M[i] n] := by
  unfold cutT
  rw [List.take_succ_eq_append_getElem h, List.map_append]
  rfl
theorem take_min (R : List Rat) (n : Nat) : R.take (min R.length n) = R.take n := by
  by_cases h : n ≤ R.length
  · rw [Nat.min_eq_right h]
  · rw [Nat.min_eq_left (by omega), List.take_of_length_le (by omega), List.take_of_length_le (by omega)]
def CutRel (w : World) (k n s : Nat) (M : List (List Rat)) (ov iv : Value) (wr : World) : Prop := ∃ i : Nat, i ≤ k ∧ iv = .int .i64 i ∧ OwnTab wr w.heap.size ov s (cutT (M.take i) n) ∧ Below w.heap.size w wr
theorem add_zero' (x : Addr) : x.add 0 = x := by
  obtain ⟨b, o, sp⟩ := x
  unfold Addr.add
  split <;> simp_all
theorem run_slice_q (w : World) (a : Option Addr) (kr cr jj : Nat) (hj : jj ≤ cr) : (Instr.slice 48 (.slice a kr cr) none (some (.int .i64 (jj : Int))) none).run Try.prog w = .ok (.slice a jj cr) w := by
  obtain ⟨i0, hi, hz0, hz1, hz2⟩ := info_parts Try.infoRat
  have h1 : (0 : Int) ≤ (jj : Int) ∧ (jj : Int) ≤ (cr : Int) := by omega
  have hmp : Option.map (fun x : Addr => x.add 0) a = a := by
    cases a with
    | none => rfl
    | some x => simp [add_zero']
  simp [Instr.slice, Instr.sliceBounds, Instr.sliceBound, run_underlying Try.underlying48, sizeOf, typeInfo, hi, asIntOf, h1, hmp]
  intro h
  omega
theorem step_slice_q {ops : Array Oper} {o : Oper} {ac : Act} {w : World} {K : Act → World → Prop} {Q : Exit → Act → World → Prop} {E : Prop}
    (hgd : o.guard = none) (s h : Operand) (hop : o.op = Op.slice 48 s none (some h) none) (a : Option Addr) (kr cr jj : Nat) (hs : ac.eval s = .slice a kr cr) (hh : ac.eval h = .int .i64 (jj : Int)) (hj : jj ≤ cr)
    (hK : K (ac.put o.dst (.slice a jj cr)) w) :
    if Region.wanted o (yielded ops ac.tmps) = true then Oper.wp Try.prog o ac w K Q else E := by
  have hw : Region.wanted o (yielded ops ac.tmps) = true := by simp [Region.wanted, hgd]
  rw [if_pos hw]
  have hr := run_slice_q w a kr cr jj hj
  unfold Oper.wp
  simp [execOp, hop, Instr.sliceAt, hs, hh, hr, Result.andThen]
  exact hK
def sLen : Value → Nat
  | .slice _ k _ => k
  | _ => 0
def CutFirst (wr : World) (n s jj : Nat) (R : List Rat) (rv : Value) (wc : World) : Prop := ∃ ro rc, rv = .slice ro jj rc ∧ OwnArg wc wr.heap.size rv s (R.take n) ∧ Below wr.heap.size wr wc
def CutRow (w0 : World) (n s : Nat) (R : List Rat) (rv : Value) (wr : World) : Prop := ∃ j : Nat, (n ≤ R.length → j = 0) ∧ min n R.length + j ≤ n ∧ OwnArg wr w0.heap.size rv s (cutI R n j) ∧ Below w0.heap.size w0 wr

set_option maxHeartbeats 3200000 in
theorem cut_any (w : World) (ao : Option Addr) (ca k n s : Nat) (M : List (List Rat)) (hk : k = M.length) (hl : k ≤ 900) (hn : n ≤ 900) (hs : 2 ≤ s) (hM : QTab w ao ca s M) :
    Calls Try.prog 25 #[.slice ao k ca, .int .i64 (n : Int)] w (fun e w' => ∃ a c, e = .returned (.slice a k c) ∧ QTab w' a c s (cutT M n) ∧ Below w.heap.size w w') := by
  have HK := hid hk
  have HM := hid hM
  clear hk hM
  go_enter Try.func25, Try.ntmps25
  go_wp2
  go_loopw [5, 6] (fun ov iv wr => CutRel w k n s M ov iv wr) (fun ov iv wr => k - (intOf iv).toNat)
  case atStart => exact ⟨0, Nat.zero_le _, rfl, OwnTab.nil _ _ _, Below.refl _ _⟩
  case round =>
    obtain ⟨i, hik, rfl, hO, HBW⟩ := hrel
    rename World => wo
    have HL : Hid ((cutT (M.take i) n).length = i) := hid (by rw [cutT_len, List.length_take, ← HK.out]; omega)
    obtain ⟨oa, oc, rfl, hQ0⟩ := hO.qtab
    by_cases hlt : i < k
    · have hi' : i < M.length := by rw [← HK.out]; exact hlt
      obtain ⟨b1, o1, rfl, l1, hc⟩ := HM.out.at (by omega)
      obtain ⟨a, kr, cr, hcell, hq⟩ := hc i hi'
      obtain ⟨hkr, hkm⟩ := hq.len
      have hcr : kr ≤ cr := by have := (qsl_at hq).2.1; omega
      have HX := hid (hq.below HBW)
      have HKR := hid hkr
      have HE := hid (cutT_next n hi')
      replace hcell := (bcells HBW _ _ l1).trans hcell
      have lb : b1 < wo.heap.size := Nat.lt_of_lt_of_le l1 HBW.size
      have HO := hid hO
      have HBW0 := hid HBW
      obtain ⟨jj, hjj⟩ : ∃ jj : Nat, jj = min kr n := ⟨_, rfl⟩
      have hmin : min (kr : Int) (n : Int) = (jj : Int) := by omega
      have hj1 : jj ≤ kr := by omega
      have HJ := hid hjj
      clear hc hq hkr hO hQ0 HBW hjj
      generalize M[i] = R at *
      generalize cutT (List.take i M) n = T0 at *
      have HBc : Below wo.heap.size wo wo.drew := (Below.refl _ _).drew
      have HOL : Hid (OwnArg (wo.drew.alloc (.cells #[] 37)) wo.heap.size (.slice (some ⟨wo.heap.size, 0, none⟩) 0 0) s []) := hid (OwnArg.lit (w := wo.drew) (Nat.le_refl _) rfl)
      have HSL : Hid (ArgSrc (wo.drew.alloc (.cells #[] 37)) (.slice a jj cr) s (R.take n)) := hid (by
        have h := (qsl_at (HX.out.below (HBc.alloc (Nat.le_refl _) (.cells #[] 37)))).2.src jj (by rw [← HKR.out]; exact hj1)
        rw [HJ.out, HKR.out, take_min, ← HKR.out, ← HJ.out] at h
        exact h)
      have HJL : Hid (jj = ([] : List Rat).length + (R.take n).length) := hid (by rw [List.length_take, ← HKR.out, HJ.out]; simp; omega)
      have HSZ : Hid (wo.heap.size ≤ (wo.drew.alloc (.cells #[] 37)).heap.size) := hid (by simp)
      have hj9 : jj ≤ 900 := by have := HJ.out; omega
      have hi0 : (0 : Int) ≤ (jj : Int) := by omega
      have hi1 : (jj : Int) ≤ (cr : Int) := by omega
      have hi2 : jj ≤ cr := by omega
      have hi3 : (jj : Int) ≤ (kr : Int) := by omega
      have hmp : Option.map (fun x : Addr => x.add 0) a = a := by
        cases a with
        | none => rfl
        | some x => simp [add_zero']
      go_wp2
      go_cut [7] (fun rv wc => CutFirst wo n s jj R rv wc)
      case first =>
        by_cases hkn : n < kr
        · obtain rfl : n = jj := by have := HJ.out; omega
          have hkn1 : (n : Int) < (kr : Int) := by omega
          have hkn2 : ¬ (kr : Int) ≤ (n : Int) := by omega
          clear hmp
          cases a with
          | none =>
            go_region_held3 (fun W' => W'.cell? ⟨b1, o1 + i, none⟩ = some (.slice none kr cr)) (first | with_reducible exact hcell | exact (bcells HBc _ _ lb).trans hcell | exact (bcells (HBc.alloc HBc.size _) _ _ lb).trans hcell) (first | (refine step_append_arg rfl (.tmp 14) (.tmp 26) rfl wo.heap.size s (.slice (some ⟨wo.heap.size, 0, none⟩) 0 0) _ [] (R.take n) rfl rfl HOL.out HSL.out _ HJL.out (by omega) HSZ.out ?_; intro ro6 rc6 w6 hN hg6; have HBn := grown_below (HBc.alloc HBc.size (.cells #[] 37)) HOL.out hg6 (Nat.le_refl _) HSZ.out; clear HBc hg6; have HBc := HBn; clear HBn))
            all_goals (go_wp2_with fail; go_meet; exact ⟨ro6, rc6, rfl, hN, HBc⟩)
          | some x =>
            obtain ⟨b2, o2, sp2⟩ := x
            have hx0 : (⟨b2, o2, sp2⟩ : Addr).add 0 = ⟨b2, o2, sp2⟩ := add_zero' _
            go_region_held3 (fun W' => W'.cell? ⟨b1, o1 + i, none⟩ = some (.slice (some ⟨b2, o2, sp2⟩) kr cr)) (first | with_reducible exact hcell | exact (bcells HBc _ _ lb).trans hcell | exact (bcells (HBc.alloc HBc.size _) _ _ lb).trans hcell) (first | (refine step_append_arg rfl (.tmp 14) (.tmp 26) rfl wo.heap.size s (.slice (some ⟨wo.heap.size, 0, none⟩) 0 0) _ [] (R.take n) rfl rfl HOL.out HSL.out _ HJL.out (by omega) HSZ.out ?_; intro ro6 rc6 w6 hN hg6; have HBn := grown_below (HBc.alloc HBc.size (.cells #[] 37)) HOL.out hg6 (Nat.le_refl _) HSZ.out; clear HBc hg6; have HBc := HBn; clear HBn))
            all_goals (go_wp2_with fail; go_meet; exact ⟨ro6, rc6, rfl, hN, HBc⟩)
        · obtain rfl : kr = jj := by have := HJ.out; omega
          have hkn1 : ¬ (n : Int) < (kr : Int) := by omega
          have hkn2 : (kr : Int) ≤ (n : Int) := by omega
          clear hmp
          cases a with
          | none =>
            go_region_held3 (fun W' => W'.cell? ⟨b1, o1 + i, none⟩ = some (.slice none kr cr)) (first | with_reducible exact hcell | exact (bcells HBc _ _ lb).trans hcell | exact (bcells (HBc.alloc HBc.size _) _ _ lb).trans hcell) (first | (refine step_append_arg rfl (.tmp 14) (.tmp 26) rfl wo.heap.size s (.slice (some ⟨wo.heap.size, 0, none⟩) 0 0) _ [] (R.take n) rfl rfl HOL.out HSL.out _ HJL.out (by omega) HSZ.out ?_; intro ro6 rc6 w6 hN hg6; have HBn := grown_below (HBc.alloc HBc.size (.cells #[] 37)) HOL.out hg6 (Nat.le_refl _) HSZ.out; clear HBc hg6; have HBc := HBn; clear HBn))
            all_goals (go_wp2_with fail; go_meet; exact ⟨ro6, rc6, rfl, hN, HBc⟩)
          | some x =>
            obtain ⟨b2, o2, sp2⟩ := x
            have hx0 : (⟨b2, o2, sp2⟩ : Addr).add 0 = ⟨b2, o2, sp2⟩ := add_zero' _
            go_region_held3 (fun W' => W'.cell? ⟨b1, o1 + i, none⟩ = some (.slice (some ⟨b2, o2, sp2⟩) kr cr)) (first | with_reducible exact hcell | exact (bcells HBc _ _ lb).trans hcell | exact (bcells (HBc.alloc HBc.size _) _ _ lb).trans hcell) (first | (refine step_append_arg rfl (.tmp 14) (.tmp 26) rfl wo.heap.size s (.slice (some ⟨wo.heap.size, 0, none⟩) 0 0) _ [] (R.take n) rfl rfl HOL.out HSL.out _ HJL.out (by omega) HSZ.out ?_; intro ro6 rc6 w6 hN hg6; have HBn := grown_below (HBc.alloc HBc.size (.cells #[] 37)) HOL.out hg6 (Nat.le_refl _) HSZ.out; clear HBc hg6; have HBc := HBn; clear HBn))
            all_goals (go_wp2_with fail; go_meet; exact ⟨ro6, rc6, rfl, hN, HBc⟩)
      case rest =>
        obtain ⟨ro6, rc6, rfl, hN, HBc2⟩ := hcut
        have HN := hid hN
        have HB6 := hid HBc2
        have hou : ∀ q, (Value.slice oa T0.length oc).ownBlock = some q → q < wo.heap.size := fun q hq => (HO.out.lt q hq).2
        have HOU := hid hou
        clear HBc hN HBc2 HOL HSL HSZ HJL hcell hmp hi0 hi1 hi2 hi3 hmin hou
        go_wp2
        go_loopw [7] (fun rv wr => CutRow wo n s R rv wr) (fun rv wr => n - sLen rv)
        case atStart => exact ⟨0, fun _ => rfl, by omega, by rw [cutI_zero]; exact HN.out, HB6.out⟩
        case round =>
          clear HN HB6
          obtain ⟨j, hj1, hj2, hOr, hBr⟩ := hrel
          obtain ⟨ra, rc, hra, hQr, -⟩ := hOr.qsl
          obtain ⟨c, hc⟩ : ∃ c, c = min n R.length + j := ⟨_, rfl⟩
          rw [cutI_len, ← hc] at hra
          subst hra
          have hcn : c ≤ n := by omega
          by_cases hlt2 : c < n
          · have hlt2i : (c : Int) < (n : Int) := by omega
            have hRn : R.length < n := by
              by_cases h : n ≤ R.length
              · have := hj1 h; omega
              · omega
            have HE2 : Hid (cutI R n (j + 1) = cutI R n j ++ [((c : Int) : Rat)]) := hid (by rw [cutI_next, hc, Nat.min_eq_right (by omega)])
            have HLc : Hid (c + 1 = (cutI R n j).length + ([((c : Int) : Rat)] : List Rat).length) := hid (by rw [cutI_len, ← hc]; rfl)
            have HRN := hid hRn
            have HC := hid hc
            have HJ2 := hid hj2
            have HOr := hid hOr
            have HBr := hid hBr
            clear hj1 hj2 hOr hBr hc hRn hQr
            generalize cutI R n j = R0 at *
            go_wp2_with fail
            refine (ofRat_any _ (c : Int) (by omega) (by omega)).mono ?_
            rintro e w7 ⟨n1, a1, k1, c1, n2, a2, k2, c2, rfl, hI, hb⟩
            have hA7 : Below w7.heap.size w7 (w7.alloc (.cells #[.bool n1, .slice a1 k1 c1, .bool n2, .slice a2 k2 c2] 37)) := (by repeat (first | exact Below.refl _ _ | refine Below.alloc ?_ ?_ _ | refine Below.setCell ?_ ?_ _ | refine Below.drew ?_ | refine below_drewN ?_ _ | (· simp) | omega | (· simp; omega) | exact Below.size (by assumption) | assumption | refine below_call ?_ (by assumption) ?_))
            have HO7 := hid ((HOr.out.below hb).below hA7)
            have hB7a := below_call HBr.out hb HBr.out.size
            have hB7 := below_call hB7a hA7 hB7a.size
            have HS7 : Hid (ArgSrc (w7.alloc (.cells #[.bool n1, .slice a1 k1 c1, .bool n2, .slice a2 k2 c2] 37)) (.slice (some ⟨w7.heap.size, 0, none⟩) 1 1) s [((c : Int) : Rat)]) := hid (argSrc_one (Box4.new _ _ _ _ _ _ rfl) ((hI.arg.mono hs).below hA7))
            clear hI hb hA7 hB7a HOr HBr
            go_wp2_with (at_builtin; go_must (refine wpList_append_arg rfl _ _ rfl wo.heap.size s _ _ R0 [((c : Int) : Rat)] rfl rfl HO7.out HS7.out (c + 1) HLc.out (by omega) hB7.size ?_); intro ro8 rc8 w8 hN8 hg8; have HB8 := hid (grown_below hB7 HO7.out hg8 (Nat.le_refl _) hB7.size); have HN8 := hid hN8; clear hN8 hg8)
            clear HO7 HS7 hB7
            go_wp2
            go_roundw
            case rel =>
              refine ⟨j + 1, fun h => ?_, ?_, by rw [HE2.out]; exact HN8.out, HB8.out⟩
              · have := HRN.out; omega
              · have h1 := HRN.out; have h2 := HC.out; omega
            case measure => simp [sLen]; omega
          · have hlt2i : ¬ (c : Int) < (n : Int) := by omega
            obtain rfl : n = c := by omega
            have HE2 : Hid (cutI R n j = cutR R n) := hid (by
              unfold cutR
              congr 1
              by_cases h : n ≤ R.length
              · have := hj1 h; omega
              · omega)
            have hA7 : Below wr.heap.size wr (wr.alloc (.cells #[.slice ra n rc] 48)) := (by repeat (first | exact Below.refl _ _ | refine Below.alloc ?_ ?_ _ | refine Below.setCell ?_ ?_ _ | refine Below.drew ?_ | refine below_drewN ?_ _ | (· simp) | omega | (· simp; omega) | exact Below.size (by assumption) | assumption | refine below_call ?_ (by assumption) ?_))
            have hB7 := below_call hBr hA7 hBr.size
            have hT7 := HO.out.below hB7
            have hBW7 := below_call HBW0.out hB7 HBW0.out.size
            have hQ7 := hQr.below hA7
            rw [HE2.out] at hQ7
            have hcell7 : (wr.alloc (.cells #[.slice ra n rc] 48)).cell? ⟨wr.heap.size, 0, none⟩ = some (.slice ra n rc) := by rw [cell_of_row _ _ _ _ _ _ (heap_alloc_new wr (.cells #[.slice ra n rc] 48))]; rfl
            have hne7 : cutR R n = [] ∨ (Value.slice oa T0.length oc).ownBlock = none ∨ (Value.slice ra n rc).ownBlock ≠ (Value.slice oa T0.length oc).ownBlock := by
              right
              cases hq : (Value.slice oa T0.length oc).ownBlock with
              | none => exact .inl rfl
              | some q =>
                right
                intro e
                have h1 := HOU.out q hq
                have h2 := (hOr.lt q e).1
                omega
            have HT7 := hid hT7
            have HQ7 := hid hQ7
            have HC7 := hid hcell7
            have HNE7 := hid hne7
            have HLT : Hid (i + 1 = T0.length + 1) := hid (by rw [HL.out])
            clear hj1 hj2 hOr hBr hc hQr hA7 hB7 hT7 hQ7 hcell7 hne7
            go_wp2_with (at_builtin; go_must (refine wpList_append_tab rfl _ _ rfl w.heap.size s _ T0 wr.heap.size (.slice ra n rc) (cutR R n) rfl rfl HT7.out HC7.out HQ7.out HNE7.out (i + 1) HLT.out (by omega) hBW7.size ?_); intro ro9 rc9 w9 hN9 hg9; have HB9 := hid (hBW7.grown hg9 hBW7.size (fun q e => (HT7.out.lt q e).1)); have HN9 := hid hN9; clear hN9 hg9)
            clear HT7 HQ7 HC7 HNE7 hBW7
            go_wp2
            go_roundw
            case rel => exact ⟨i + 1, by omega, by go_num, by rw [HE.out]; exact HN9.out, HB9.out⟩
            case measure => simp [intOf]; omega
    · have hke : i = k := by omega
      subst hke
      have HT : Hid (cutT (M.take i) n = cutT M n) := hid (by rw [List.take_of_length_le (by rw [← HK.out]; exact Nat.le_refl _)])
      rw [HT.out] at hQ0
      rw [HL.out]
      have HR := hid hQ0
      have HB := hid HBW
      clear hO hQ0 HBW
      go_wp2
      go_ret
      exact ⟨oa, oc, rfl, HR.out, HB.out⟩

end Go.Proofs.Ytkoadlacdgdemaa

namespace Go.Proofs.Ytkoadlacdgdemaa
open Go.RowKit Lm
set_option linter.unusedSimpArgs false
set_option linter.unusedVariables false
set_option maxRecDepth 100000

theorem dotR_comm (A B : List Rat) : dotR A B = dotR B A := by
  induction A generalizing B with
  | nil => cases B <;> rfl
  | cons a A ih =>
    cases B with
    | nil => rfl
    | cons b B =>
      show a * b + dotR A B = b * a + dotR B A
      rw [ih B, Rat.mul_comm]
theorem dot_plus2 (A B C : List Rat) (t : Rat) (h1 : A.length = B.length) (h2 : A.length = C.length) : dotR (plusR A t B) C = dotR A C + t * dotR B C := by
  induction A generalizing B C with
  | nil =>
    cases B with
    | cons b B => simp at h1
    | nil =>
      cases C with
      | cons c C => simp at h2
      | nil => show (0 : Rat) = 0 + t * 0; rw [Rat.mul_zero, Rat.add_zero]
  | cons a A ih =>
    cases B with
    | nil => simp at h1
    | cons b B =>
      cases C with
      | nil => simp at h2
      | cons c C =>
        simp at h1 h2
        show (a + t * b) * c + dotR (plusR A t B) C = a * c + dotR A C + t * (b * c + dotR B C)
        rw [ih B C h1 h2]
        grind
theorem dot_zeros (n : Nat) (X : List Rat) : dotR (List.replicate n 0) X = 0 := by
  induction n generalizing X with
  | zero => exact dotR_nil X
  | succ n ih =>
    cases X with
    | nil => rfl
    | cons x X =>
      show (0 : Rat) * x + dotR (List.replicate n 0) X = 0
      rw [ih X, Rat.zero_mul, Rat.add_zero]
theorem timesR_len (M : List (List Rat)) (X : List Rat) : (timesR M X).length = M.length := by simp [timesR]
theorem cols_len (M : List (List Rat)) (n : Nat) : (cols M n).length = n := by simp [cols]
/-- From the left, and then with x, is with x, and then from the left. -/
theorem dot_left {M : List (List Rat)} {X Y : List Rat} {n : Nat} (hl : M.length = Y.length) (hw : ∀ R ∈ M, R.length = n) (hX : X.length = n) : dotR (timesR (cols M n) Y) X = dotR Y (timesR M X) := by
  have key : ∀ i, i ≤ M.length → dotR (leftR M Y n i) X = dotR (Y.take i) ((timesR M X).take i) := by
    intro i
    induction i with
    | zero => intro _; rw [leftR_zero, dot_zeros, List.take_zero, dotR_nil]
    | succ i ih =>
      intro hi
      have hm : M[i].length = n := hw _ (List.getElem_mem _)
      have ht : (timesR M X)[i]'(by rw [timesR_len]; omega) = dotR M[i] X := by simp [timesR]
      rw [← leftR_next (by omega) (by omega) hl hm, dot_plus2 _ _ _ _ (by rw [leftR_len, hm]) (by rw [leftR_len, hX]), ih (by omega), dotR_take Y (timesR M X) i (by omega) (by rw [timesR_len, hl]), ht]
  have h := key M.length (Nat.le_refl _)
  rw [leftR_end hl, List.take_of_length_le (by omega), List.take_of_length_le (by rw [timesR_len]; omega)] at h
  exact h
theorem wide_of {M : List (List Rat)} {n : Nat} (h : ∀ R ∈ M, R.length = n) : wide M n = true := by
  unfold wide
  rw [List.all_eq_true]
  intro R hR
  exact decide_eq_true (by rw [h R hR])

theorem run_min2 {P : Program} (w : World) (ts : Array TypeId) (t : TypeId) (x y : Int) : (Builtin.min_ ts t #[.int .i64 x, .int .i64 y]).run P w = .ok (.int .i64 (min x y)) w := by
  have e : ∀ a b : Int, (if b < a then b else a) = min a b := by
    intro a b
    rw [Int.min_def]
    split <;> split <;> omega
  simp [Builtin.min_, Builtin.min2, e]

set_option maxHeartbeats 6400000 in
theorem vecSides_any (w : World) (ao : Option Addr) (k ca : Nat) (L : List (List RQ)) (xo : Option Addr) (kx cx : Nat) (LX : List RQ) (yo : Option Addr) (ky cy : Nat) (LY : List RQ) (hk : k = L.length) (hM : RawTab w ao ca L) (hkx : kx = LX.length) (hX : RawRow w xo cx LX) (hky : ky = LY.length) (hY : RawRow w yo cy LY) :
    Calls Try.prog 6 #[.slice ao k ca, .slice xo kx cx, .slice yo ky cy] w fun e w' => e = .returned (.bool true) ∧ Below w.heap.size w w' := by
  have fx : kx ≤ 9223372036854775807 := by have := hX.lenm; omega
  have fy : ky ≤ 9223372036854775807 := by have := hY.lenm; omega
  have fcx : kx ≤ cx := by have := hX.1; omega
  obtain ⟨n, hn⟩ : ∃ n : Nat, n = min kx 5 := ⟨_, rfl⟩
  have hmin : min (kx : Int) 5 = (n : Int) := by omega
  have hmn : ∀ W : World, (Builtin.min_ #[3, 3] 3 #[.int .i64 (kx : Int), .int .i64 5]).run Try.prog W = .ok (.int .i64 (n : Int)) W := fun W => by rw [run_min2, hmin]
  have hn5 : n ≤ 5 := by omega
  have hnx : n ≤ kx := by omega
  have g1 : n ≤ cx := by omega
  have i1 : (n : Int) ≤ (cx : Int) := by omega
  have HM := hid hM
  have HX := hid hX
  have HY := hid hY
  have HK := hid hk
  have HKX := hid hkx
  have HKY := hid hky
  clear hM hX hY hk hkx hky hn hmin
  go_enter Try.func6, Try.ntmps6
  go_wp2_with fail
  refine (great4_any _ _ _ _ L HK.out HM.out).mono ?_
  rintro e W0 ⟨b, rfl, hsm, rfl⟩
  cases b
  · have HS := hid (hsm rfl)
    clear hsm
    have hW1 : Below W0.heap.size W0 (W0.alloc (.cells #[.slice xo kx cx, .slice yo ky cy] 48)) := (by repeat (first | exact Below.refl _ _ | refine Below.alloc ?_ ?_ _ | refine Below.setCell ?_ ?_ _ | refine Below.drew ?_ | refine below_drewN ?_ _ | (· simp) | omega | (· simp; omega) | exact Below.size (by assumption) | assumption | refine below_call ?_ (by assumption) ?_))
    have hTab := rawTab2 (W0 := W0) (g := W0.heap.size) rfl HKX.out HKY.out HX.out HY.out
    go_wp2_with fail
    refine (great4_any _ _ _ _ [LX, LY] rfl hTab).mono ?_
    rintro e W1 ⟨b, rfl, hsm2, rfl⟩
    clear hTab
    cases b
    · have HS2 := hid (hsm2 rfl)
      clear hsm2
      have hT := (HM.out.below hW1).qtab HS.out.2
      have hXq : QSl (W0.alloc (.cells #[.slice xo kx cx, .slice yo ky cy] 48)) (.slice xo kx cx) 6 (LX.map RQ.r) := ⟨_, _, _, rfl, by rw [List.length_map]; exact HKX.out, (HX.out.below hW1).qat (HS2.out.2 LX (by simp))⟩
      have hYq : QSl (W0.alloc (.cells #[.slice xo kx cx, .slice yo ky cy] 48)) (.slice yo ky cy) 6 (LY.map RQ.r) := ⟨_, _, _, rfl, by rw [List.length_map]; exact HKY.out, (HY.out.below hW1).qat (HS2.out.2 LY (by simp))⟩
      have hkM : k = (L.map (List.map RQ.r)).length := by rw [List.length_map]; exact HK.out
      have hk200 : k ≤ 200 := by
        have h1 := HS.out.1
        have h2 := rowSum_len L
        have := HK.out
        omega
      generalize L.map (List.map RQ.r) = M at *
      generalize LX.map RQ.r = X at *
      generalize LY.map RQ.r = Y at *
      have hXn : QSl (W0.alloc (.cells #[.slice xo kx cx, .slice yo ky cy] 48)) (.slice xo n cx) 6 (X.take n) := by
        obtain ⟨h1, h2⟩ := qsl_at hXq
        exact ⟨_, _, _, rfl, by rw [List.length_take]; omega, h2.take n⟩
      have HXL : Hid ((X.take n).length = n) := hid (by
        obtain ⟨h1, h2⟩ := qsl_at hXq
        rw [List.length_take]; omega)
      have HT := hid hT
      have HXq := hid hXn
      have HYq := hid hYq
      have HKM := hid hkM
      clear hT hXq hYq hXn HM HX HY HS HS2 HK HKX HKY hkM
      generalize X.take n = X1 at *
      generalize W0.alloc (.cells #[.slice xo kx cx, .slice yo ky cy] 48) = V0 at *
      have hm2 : ((12 * k + 1) + 6) * n ≤ 14000 := Nat.le_trans (Nat.mul_le_mul (show (12 * k + 1) + 6 ≤ 2407 by omega) hn5) (by omega)
      have hm3 : (6 + (12 * n + 1)) * k ≤ 14000 := Nat.le_trans (Nat.mul_le_mul (show 6 + (12 * n + 1) ≤ 67 by omega) hk200) (by omega)
      go_wp2_with fail
      refine (cut_any _ _ _ _ n 6 M HKM.out (by omega) (by omega) (by omega) HT.out).mono ?_
      rintro e V1 ⟨ma, mc, rfl, hT1, hb1⟩
      have hW2 := below_call hW1 hb1 hW1.size
      have hYb := hb1.alloc hb1.size (.cells #[.slice yo ky cy] 48)
      have hYa : Below V1.heap.size V1 (V1.alloc (.cells #[.slice yo ky cy] 48)) := (by repeat (first | exact Below.refl _ _ | refine Below.alloc ?_ ?_ _ | refine Below.setCell ?_ ?_ _ | refine Below.drew ?_ | refine below_drewN ?_ _ | (· simp) | omega | (· simp; omega) | exact Below.size (by assumption) | assumption | refine below_call ?_ (by assumption) ?_))
      have HTY : Hid (QTab (V1.alloc (.cells #[.slice yo ky cy] 48)) (some ⟨V1.heap.size, 0, none⟩) 1 6 [Y]) := hid (qtab1 (heap_alloc_new V1 (.cells #[.slice yo ky cy] 48)) (HYq.out.below hYb))
      have HT1 := hid (hT1.below hYa)
      have HX1 := hid (HXq.out.below hYb)
      have HKC : Hid (k = (cutT M n).length) := hid (by rw [cutT_len]; exact HKM.out)
      have HWC : Hid (∀ R ∈ cutT M n, R.length = n) := hid (cutT_wide M n)
      have hW3 := hW2.alloc hW2.size (.cells #[.slice yo ky cy] 48)
      generalize cutT M n = M1 at *
      clear hT1 hb1 HT HYq HXq hYb hYa hW2 hW1 HKM
      go_wp2_with fail
      refine (cut_any _ _ _ 1 k 6 [Y] rfl (by omega) (by omega) (by omega) HTY.out).mono ?_
      rintro e V2 ⟨ya, yc, rfl, hT2, hb2⟩
      have hW4 := below_call hW3 hb2 hW3.size
      obtain ⟨yb, yoff, rfl, ly, hyc⟩ := hT2.at (by simp [cutT])
      obtain ⟨y1, ky1, cy1, hyc0, hyq⟩ := hyc 0 (by simp [cutT])
      have hYL : (cutR Y k).length = k := cutR_len Y k
      have hyq1 : QSl V2 (.slice y1 ky1 cy1) 6 (cutR Y k) := hyq
      obtain rfl : k = ky1 := by have := hyq1.len.1; omega
      rw [Nat.add_zero] at hyc0
      have HY1 := hid hyq1
      have HYL := hid hYL
      replace HT1 := hid (HT1.out.below hb2)
      replace HX1 := hid (HX1.out.below hb2)
      clear hT2 hb2 HTY hyc hyq hyq1 hYL hW3
      generalize cutR Y k = Y1 at *
      go_wp2_with fail
      clear hyc0 ly
      refine (Left_any _ _ _ _ _ _ n 6 6 M1 Y1 HKC.out (by omega) (by omega) HT1.out HY1.out (wide_of HWC.out) (by omega) (by omega) (by omega)).mono ?_
      rintro e V3 ⟨la, lk, lc, rfl, hlk, hQ3, hb3⟩
      rw [timesR_len, cols_len] at hlk
      subst hlk
      have hW5 := below_call hW4 hb3 hW4.size
      replace HT1 := hid (HT1.out.below hb3)
      replace HX1 := hid (HX1.out.below hb3)
      replace HY1 := hid (HY1.out.below hb3)
      have HLq := hid hQ3
      clear hb3 hW4 hQ3
      go_wp2_with fail
      refine (Times_any _ _ _ _ _ lk _ 6 6 M1 X1 HKC.out (by omega) HT1.out HX1.out (wide_of HWC.out) (by omega) (by omega) (by rw [HXL.out]; omega)).mono ?_
      rintro e V4 ⟨ta, tk, tc, rfl, htk, hQ4, hb4⟩
      rw [timesR_len, ← HKC.out] at htk
      subst htk
      rw [HXL.out] at hQ4
      have hW6 := below_call hW5 hb4 hW5.size
      replace HX1 := hid (HX1.out.below hb4)
      replace HY1 := hid (HY1.out.below hb4)
      replace HLq := hid (HLq.out.below hb4)
      have HTq := hid hQ4
      clear hb4 hW5 hQ4 HT1
      have HEQ : Hid (dotR (timesR (cols M1 lk) Y1) X1 = dotR Y1 (timesR M1 X1)) := hid (dot_left (by rw [← HKC.out, HYL.out]) HWC.out HXL.out)
      have HL1 : Hid ((timesR (cols M1 lk) Y1).length = lk) := hid (by rw [timesR_len, cols_len])
      have HL2 : Hid ((timesR M1 X1).length = tk) := hid (by rw [timesR_len]; exact HKC.out.symm)
      generalize timesR (cols M1 lk) Y1 = A1 at *
      generalize timesR M1 X1 = A2 at *
      go_wp2_with fail
      refine (vdot_any _ _ _ _ _ _ ((6 + 6) * tk + 1) 6 A1 X1 HL1.out.symm HXL.out.symm (qsl_at HLq.out.sl).2 (qsl_at HX1.out).2 (by omega) (by omega) hm2).mono ?_
      rintro e V5 ⟨n1, a1, k1, c1, n2, a2, k2, c2, rfl, hI5, hb5⟩
      have hs5 := hb5.alloc hb5.size (.cells #[.bool n1, .slice a1 k1 c1, .bool n2, .slice a2 k2 c2] 37)
      have hA5 : Below V5.heap.size V5 (V5.alloc (.cells #[.bool n1, .slice a1 k1 c1, .bool n2, .slice a2 k2 c2] 37)) := (by repeat (first | exact Below.refl _ _ | refine Below.alloc ?_ ?_ _ | refine Below.setCell ?_ ?_ _ | refine Below.drew ?_ | refine below_drewN ?_ _ | (· simp) | omega | (· simp; omega) | exact Below.size (by assumption) | assumption | refine below_call ?_ (by assumption) ?_))
      have hW7 := below_call hW6 hs5 hW6.size
      have bX : Box4 (V5.alloc (.cells #[.bool n1, .slice a1 k1 c1, .bool n2, .slice a2 k2 c2] 37)) V5.heap.size (.bool n1) (.slice a1 k1 c1) (.bool n2) (.slice a2 k2 c2) := Box4.new _ _ _ _ _ _ rfl
      replace HY1 := hid (HY1.out.below hs5)
      replace HTq := hid (HTq.out.below hs5)
      have HI5 := hid (hI5.below hA5)
      clear hb5 hs5 hA5 hW6 HX1 HLq hI5
      go_wp2_with fail
      refine (vdot_any _ _ _ _ _ _ 6 ((6 + 6) * lk + 1) Y1 A2 HYL.out.symm HL2.out.symm (qsl_at HY1.out).2 (qsl_at HTq.out.sl).2 (by omega) (by omega) hm3).mono ?_
      rintro e V6 ⟨n3, a3, k3, c3, n4, a4, k4, c4, rfl, hI6, hb6⟩
      have hs6 := hb6.alloc hb6.size (.cells #[.bool n3, .slice a3 k3 c3, .bool n4, .slice a4 k4 c4] 37)
      have hA6 : Below V6.heap.size V6 (V6.alloc (.cells #[.bool n3, .slice a3 k3 c3, .bool n4, .slice a4 k4 c4] 37)) := (by repeat (first | exact Below.refl _ _ | refine Below.alloc ?_ ?_ _ | refine Below.setCell ?_ ?_ _ | refine Below.drew ?_ | refine below_drewN ?_ _ | (· simp) | omega | (· simp; omega) | exact Below.size (by assumption) | assumption | refine below_call ?_ (by assumption) ?_))
      have hW8 := below_call hW7 hs6 hW7.size
      have bY : Box4 (V6.alloc (.cells #[.bool n3, .slice a3 k3 c3, .bool n4, .slice a4 k4 c4] 37)) V6.heap.size (.bool n3) (.slice a3 k3 c3) (.bool n4) (.slice a4 k4 c4) := Box4.new _ _ _ _ _ _ rfl
      replace bX := (bX.keep hb6).alloc (.cells #[.bool n3, .slice a3 k3 c3, .bool n4, .slice a4 k4 c4] 37)
      replace HI5 := hid (HI5.out.below hs6)
      have HI6 := hid (hI6.below hA6)
      rw [HEQ.out] at HI5
      generalize dotR Y1 A2 = r at *
      clear hb6 hs6 hA6 hW7 HY1 HTq hI6 HEQ HL1 HL2 HKC HWC HXL HYL hmn
      have HW8 := hid hW8
      clear hW8
      go_wp2_with fail
      generalize V6.alloc (.cells #[.bool n3, .slice a3 k3 c3, .bool n4, .slice a4 k4 c4] 37) = U0 at *
      have hBU0 := Below.refl U0.heap.size U0
      refine (ve_num (VE.none _) _).mono ?_
      rintro e U1 ⟨rfl, -, hbU1⟩
      have hBU1 := below_call hBU0 hbU1 hBU0.size
      clear hbU1 hBU0
      go_wp2_with fail
      refine (ve_num (VE.none _) _).mono ?_
      rintro e U2 ⟨rfl, -, hbU2⟩
      have hBU2 := below_call hBU1 hbU2 hBU1.size
      clear hbU2 hBU1
      go_wp2_with fail
      refine (ve_num (VE.none _) _).mono ?_
      rintro e U3 ⟨rfl, -, hbU3⟩
      have hBU3 := below_call hBU2 hbU3 hBU2.size
      clear hbU3 hBU2
      go_wp2_with fail
      refine (ve_num (VE.none _) _).mono ?_
      rintro e U4 ⟨rfl, -, hbU4⟩
      have hBU4 := below_call hBU3 hbU4 hBU3.size
      clear hbU4 hBU3
      obtain ⟨x0, x1, x2, x3⟩ := (bX.keep hBU4).c
      obtain ⟨y0, y1', y2, y3⟩ := (bY.keep hBU4).c
      have lX := (bX.keep hBU4).lt
      have lY := (bY.keep hBU4).lt
      go_wp2_with fail
      clear x0 x1 x2 x3 y0 y1' y2 y3 lX lY
      refine (sameRat_any _ _ _ _ _ r r (HI5.out.below hBU4) (HI6.out.below hBU4)).mono ?_
      rintro e U5 ⟨rfl, hb⟩
      rw [decide_eq_true rfl]
      have hBU5 := below_call hBU4 hb hBU4.size
      clear hb hBU4
      go_wp2_with fail
      refine (awake4_any _).mono ?_
      rintro e U6 ⟨rfl, hb⟩
      have HR := hid (below_call HW8.out (below_call hBU5 hb hBU5.size) HW8.out.size)
      clear hb hBU5
      go_wp2
      go_ret
      exact ⟨rfl, HR.out⟩
    · clear hsm2 HS HM HX HY
      go_wp2_with fail
      refine (awake4_any _).mono ?_
      rintro e W4 ⟨rfl, hb⟩
      have HR := hid (below_call hW1 hb hW1.size)
      clear hb
      go_wp2
      go_ret
      exact ⟨rfl, HR.out⟩
  · clear hsm HM HX HY
    go_wp2_with fail
    refine (awake4_any _).mono ?_
    rintro e W4 ⟨rfl, hb⟩
    have HR := hid hb
    clear hb
    go_wp2
    go_ret
    exact ⟨rfl, HR.out⟩

end Go.Proofs.Ytkoadlacdgdemaa

namespace Go.Proofs.Ytkoadlacdgdemaa
open Go.RowKit Lm
set_option linter.unusedSimpArgs false
set_option linter.unusedVariables false
set_option maxRecDepth 100000

theorem cmpR_zero (r t : Rat) : cmpR r t = 0 ↔ r = t := by
  rcases cmpR_or r t with ⟨h, e⟩ | ⟨h, e⟩ | ⟨h, e⟩
  · rw [e]
    constructor
    · intro h0; omega
    · intro h0; subst h0; exact absurd h (Rat.lt_irrefl)
  · exact ⟨fun _ => h, fun _ => e⟩
  · rw [e]
    constructor
    · intro h0; omega
    · intro h0; subst h0; exact absurd h (Rat.lt_irrefl)

theorem QSl.cellsAt {w : World} {ao : Option Addr} {k c n : Nat} {R : List Rat} (h : QSl w (.slice ao k c) n R) (h0 : 0 < R.length) : ∃ b off, ao = some ⟨b, off, none⟩ ∧ b < w.heap.size ∧ ∀ i (h : i < R.length), ∃ n1 a1 k1 c1 n2 a2 k2 c2, At4 w b (off + i * 4) (.bool n1) (.slice a1 k1 c1) (.bool n2) (.slice a2 k2 c2) ∧ RArg w (.agg #[.bool n1, .slice a1 k1 c1, .bool n2, .slice a2 k2 c2]) n R[i] := by
  obtain ⟨hk, h1⟩ := qsl_at h
  obtain ⟨b, off, rfl, hl⟩ := h1.spot h0
  refine ⟨b, off, rfl, hl, fun i hi => ?_⟩
  obtain ⟨n1, a1, k1, c1, n2, a2, k2, c2, p1, p2, p3, p4, pA⟩ := (h1.at i hi).1
  exact ⟨n1, a1, k1, c1, n2, a2, k2, c2, ⟨p1, p2, p3, p4⟩, pA⟩

set_option maxHeartbeats 3200000 in
theorem rats_any (w : World) (ao bo : Option Addr) (k j ca cb n m : Nat) (A B : List Rat) (hA : QSl w (.slice ao k ca) n A) (hB : QSl w (.slice bo j cb) m B) (hn : n ≤ 5000) (hm : m ≤ 5000) :
    Calls Try.prog 31 #[.slice ao k ca, .slice bo j cb] w fun e w' => e = .returned (.bool (decide (A = B))) ∧ Below w.heap.size w w' := by
  obtain ⟨hka, hk64⟩ := hA.len
  obtain ⟨hkb, hj64⟩ := hB.len
  by_cases hkj : k = j
  · subst hkj
    have HA := hid hA
    have HB := hid hB
    have HKA := hid hka
    have HKB := hid hkb
    clear hA hB hka hkb
    go_enter Try.func31, Try.ntmps31
    go_wp2
    go_loopw [5] (fun iv wr => ∃ i : Nat, i ≤ k ∧ iv = .int .i64 i ∧ (∀ p (h : p < A.length) (h' : p < B.length), p < i → A[p] = B[p]) ∧ Below w.heap.size w wr) (fun iv wr => k - (intOf iv).toNat)
    case atStart => exact ⟨0, Nat.zero_le _, rfl, fun p _ _ h => by omega, Below.refl _ _⟩
    case round =>
      obtain ⟨i, hik, rfl, hall, HBW⟩ := hrel
      have HALL := hid hall
      clear hall
      by_cases hlt : i < k
      · have hiA : i < A.length := by rw [← HKA.out]; exact hlt
        have hiB : i < B.length := by rw [← HKB.out]; exact hlt
        obtain ⟨b1, o1, rfl, l1, hcA⟩ := HA.out.cellsAt (by omega)
        obtain ⟨b2, o2, rfl, l2, hcB⟩ := HB.out.cellsAt (by omega)
        obtain ⟨n1, a1, k1, c1, n2, a2, k2, c2, hC1, hX⟩ := hcA i hiA
        obtain ⟨n3, a3, k3, c3, n4, a4, k4, c4, hC2, hY⟩ := hcB i hiB
        have HX := hid hX
        have HY := hid hY
        clear hX hY hcA hcB
        obtain ⟨z, hz⟩ : ∃ z, cmpR A[i] B[i] = z := ⟨_, rfl⟩
        have HZ := hid hz
        replace HBW := HBW.drew
        by_cases hz0 : z = 0
        · subst hz0
          have HEQ : Hid (A[i] = B[i]) := hid ((cmpR_zero _ _).1 hz)
          clear hz
          go_wp2
          go_region_held3 (fun W' => W'.cell? ⟨b1, o1 + i * 4, none⟩ = some (.bool n1) ∧ W'.cell? ⟨b1, o1 + i * 4 + 1, none⟩ = some (.slice a1 k1 c1) ∧ W'.cell? ⟨b1, o1 + i * 4 + 2, none⟩ = some (.bool n2) ∧ W'.cell? ⟨b1, o1 + i * 4 + 3, none⟩ = some (.slice a2 k2 c2) ∧ W'.cell? ⟨b2, o2 + i * 4, none⟩ = some (.bool n3) ∧ W'.cell? ⟨b2, o2 + i * 4 + 1, none⟩ = some (.slice a3 k3 c3) ∧ W'.cell? ⟨b2, o2 + i * 4 + 2, none⟩ = some (.bool n4) ∧ W'.cell? ⟨b2, o2 + i * 4 + 3, none⟩ = some (.slice a4 k4 c4)) (exact keepAA hC1 l1 hC2 l2 HBW) (first
            | (go_at_call 32; go_must (refine (cmpRat_any _ _ _ n m A[i] B[i] (HX.out.below HBW) (HY.out.below HBW) hn hm).mono ?_); rintro e w1 ⟨rfl, hb⟩; rw [HZ.out]; have HBn := below_call HBW hb HBW.size; clear HBW hb; have HBW := HBn; clear HBn))
          have HBW2 := hid HBW
          clear HBW
          go_wp2
          go_roundw
          case rel =>
            refine ⟨i + 1, by omega, by go_num, fun p hp hp' hpi => ?_, HBW2.out⟩
            by_cases hpi2 : p = i
            · subst hpi2; exact HEQ.out
            · exact HALL.out p hp hp' (by omega)
          case measure => simp [intOf]; omega
        · have HNE : Hid (decide (A = B) = false) := hid (decide_eq_false (fun h => by
            subst h
            exact hz0 (by rw [← HZ.out]; exact (cmpR_zero _ _).2 rfl)))
          have hzb : (z != 0) = true := by simp [hz0]
          clear hz
          go_wp2
          go_region_held3 (fun W' => W'.cell? ⟨b1, o1 + i * 4, none⟩ = some (.bool n1) ∧ W'.cell? ⟨b1, o1 + i * 4 + 1, none⟩ = some (.slice a1 k1 c1) ∧ W'.cell? ⟨b1, o1 + i * 4 + 2, none⟩ = some (.bool n2) ∧ W'.cell? ⟨b1, o1 + i * 4 + 3, none⟩ = some (.slice a2 k2 c2) ∧ W'.cell? ⟨b2, o2 + i * 4, none⟩ = some (.bool n3) ∧ W'.cell? ⟨b2, o2 + i * 4 + 1, none⟩ = some (.slice a3 k3 c3) ∧ W'.cell? ⟨b2, o2 + i * 4 + 2, none⟩ = some (.bool n4) ∧ W'.cell? ⟨b2, o2 + i * 4 + 3, none⟩ = some (.slice a4 k4 c4)) (exact keepAA hC1 l1 hC2 l2 HBW) (first
            | (go_at_call 32; go_must (refine (cmpRat_any _ _ _ n m A[i] B[i] (HX.out.below HBW) (HY.out.below HBW) hn hm).mono ?_); rintro e w1 ⟨rfl, hb⟩; rw [HZ.out]; have HBn := below_call HBW hb HBW.size; clear HBW hb; have HBW := HBn; clear HBn))
          have HBW2 := hid HBW
          clear HBW
          go_wp2
          go_ret
          exact ⟨ret_bool HNE.out.symm, HBW2.out⟩
      · have HEQ : Hid (decide (A = B) = true) := hid (decide_eq_true (List.ext_getElem (by rw [← HKA.out, ← HKB.out]) fun p hp hp' => HALL.out p hp hp' (by have := HKA.out; omega)))
        have HBW2 := hid HBW
        clear HBW
        go_wp2
        go_ret
        exact ⟨ret_bool HEQ.out.symm, HBW2.out⟩
  · have hne : ((k : Int) != (j : Int)) = true := by simp; omega
    have HNE : Hid (decide (A = B) = false) := hid (decide_eq_false (fun h => by subst h; omega))
    clear hA hB hka hkb
    go_enter Try.func31, Try.ntmps31
    go_wp2
    go_ret
    exact ⟨ret_bool HNE.out.symm, Below.refl _ _⟩

/-- A row of noughts that has been made. -/
theorem made_qsl {W : World} {base k g : Nat} (h : W.ownsRow base 37 4 (.slice (some ⟨g, 0, none⟩) k k) k (madeCells (Value.agg #[.bool false, .slice none 0 0, .bool false, .slice none 0 0]).cells (k * 4)).toList) (hm : k ≤ maxLen) (n : Nat) : QSl W (.slice (some ⟨g, 0, none⟩) k k) n (List.replicate k 0) := by
  have hf : (madeCells (Value.agg #[.bool false, .slice none 0 0, .bool false, .slice none 0 0]).cells (k * 4)).toList = flat (List.replicate k zeroQ) := zeros_flat k
  have hl := (made4 _ _ _ _ h).lt
  refine ⟨_, _, _, rfl, by simp, by simp, hm, .inr ⟨g, 0, rfl, hl, fun i hi => ?_⟩⟩
  have hi' : i < (List.replicate k zeroQ).length := by simpa using hi
  obtain ⟨f0, f1, f2, f3⟩ := flat_get (List.replicate k zeroQ) i hi'
  rw [← hf] at f0 f1 f2 f3
  rw [List.length_replicate] at hi hi'
  rw [List.getElem_replicate] at f0 f1 f2 f3
  rw [Nat.zero_add, List.getElem_replicate]
  exact ⟨_, _, _, _, _, _, _, _, (h.cellAt (i * 4) (by omega)).trans f0, (h.cellAt (i * 4 + 1) (by omega)).trans f1, (h.cellAt (i * 4 + 2) (by omega)).trans f2, (h.cellAt (i * 4 + 3) (by omega)).trans f3, (rarg_zero W).mono (Nat.zero_le _)⟩
/-- One of its numbers is set. -/
theorem QSl.setAt {W : World} {g k n i : Nat} {R : List Rat} {n1 n2 : Bool} {a1 a2 : Option Addr} {k1 c1 k2 c2 : Nat} {r : Rat} (h : QSl W (.slice (some ⟨g, 0, none⟩) k k) n R) (hB : QBlk W g k) (hi : i < k) (hr : RArg W (.agg #[.bool n1, .slice a1 k1 c1, .bool n2, .slice a2 k2 c2]) n r) : QSl (fillAt W g (i * 4) (.bool n1) (.slice a1 k1 c1) (.bool n2) (.slice a2 k2 c2)) (.slice (some ⟨g, 0, none⟩) k k) n (R.set i r) := by
  obtain ⟨hk, h1⟩ := qsl_at h
  have hG := growAt W g (i * 4) (.bool n1) (.slice a1 k1 c1) (.bool n2) (.slice a2 k2 c2)
  refine ⟨_, _, _, rfl, by rw [List.length_set]; exact hk, by rw [List.length_set]; exact h1.1, h1.2.1, .inr ⟨g, 0, rfl, Nat.lt_of_lt_of_le hB.lt hG.size, fun j hj => ?_⟩⟩
  rw [List.length_set] at hj
  rw [Nat.zero_add]
  by_cases hji : j = i
  · subst hji
    rw [List.getElem_set_self]
    obtain ⟨p1, p2, p3, p4⟩ := At4.filled hB (show j * 4 + 4 ≤ k * 4 by omega) n1 n2 a1 a2 k1 c1 k2 c2
    exact ⟨_, _, _, _, _, _, _, _, p1, p2, p3, p4, hr.offL hB.no hG⟩
  · rw [List.getElem_set_ne (by omega)]
    obtain ⟨m1, d1, e1, f1, m2, d2, e2, f2, p1, p2, p3, p4, pA⟩ := (h1.at j hj).1
    rw [Nat.zero_add] at p1 p2 p3 p4
    obtain ⟨q1, q2, q3, q4⟩ := At4.beside (o' := i * 4) (⟨p1, p2, p3, p4⟩ : At4 W g (j * 4) _ _ _ _) (by omega) (.bool n1) (.slice a1 k1 c1) (.bool n2) (.slice a2 k2 c2)
    exact ⟨m1, d1, e1, f1, m2, d2, e2, f2, q1, q2, q3, q4, pA.offL hB.no hG⟩
theorem QBlk.other {W W' : World} {g g' k : Nat} (h : QBlk W g k) (hg : W.grownBy W' (some g')) (hne : g ≠ g') : QBlk W' g k := by
  have hl := h.lt
  obtain ⟨cs, h1, h2⟩ := h
  exact ⟨cs, (hg.block g hl (by simpa using hne)).trans h1, h2⟩
theorem fillAt_eq (W : World) (g o : Nat) (p q r s : Value) : (((W.setCell ⟨g, o, none⟩ p).setCell ⟨g, o + 1, none⟩ q).setCell ⟨g, o + 2, none⟩ r).setCell ⟨g, o + 3, none⟩ s = fillAt W g o p q r s := rfl
theorem dot_unit (R : List Rat) (k : Nat) (h : k < R.length) : dotR R ((List.replicate R.length 0).set k 1) = R[k] := by
  induction R generalizing k with
  | nil => simp at h
  | cons a R ih =>
    cases k with
    | zero =>
      show a * 1 + dotR R (List.replicate R.length 0) = a
      rw [dotR_comm, dot_zeros, Rat.add_zero, Rat.mul_one]
    | succ k =>
      simp at h
      show a * 0 + dotR R ((List.replicate R.length 0).set k 1) = R[k]
      rw [ih k h, Rat.mul_zero, Rat.zero_add]
theorem times_unit {M : List (List Rat)} {n k : Nat} (hw : ∀ R ∈ M, R.length = n) (hk : k < n) : timesR M ((List.replicate n 0).set k 1) = colR M k := by
  unfold timesR colR
  apply List.map_congr_left
  intro R hR
  have hl := hw R hR
  subst hl
  rw [dot_unit R k hk, List.getD_eq_getElem?_getD, List.getElem?_eq_getElem hk]
  rfl
theorem left_unit {M : List (List Rat)} {n i : Nat} (hw : ∀ R ∈ M, R.length = n) (hi : i < M.length) : timesR (cols M n) ((List.replicate M.length 0).set i 1) = M[i] := by
  have hl : M[i].length = n := hw _ (List.getElem_mem _)
  apply List.ext_getElem
  · rw [timesR_len, cols_len, hl]
  · intro c h1 h2
    have hc : c < n := by omega
    have hcl : (colR M c).length = M.length := by simp [colR]
    have e := dot_unit (colR M c) i (by omega)
    have e2 : List.replicate M.length (0 : Rat) = List.replicate (colR M c).length 0 := by rw [hcl]
    simp only [timesR, cols, List.getElem_map, List.getElem_range]
    rw [e2, e]
    simp only [colR, List.getElem_map]
    rw [List.getD_eq_getElem?_getD, List.getElem?_eq_getElem h2]
    rfl

theorem keepU {w W : World} {b o b' o' b2 o2 : Nat} {p q r s c p' q' r' s' : Value} (h : At4 w b o p q r s) (hl : b < w.heap.size) (hc : w.cell? ⟨b2, o2, none⟩ = some c) (hl2 : b2 < w.heap.size) (h' : At4 w b' o' p' q' r' s') (hl' : b' < w.heap.size) (hb : Below w.heap.size w W) :
    W.cell? ⟨b, o, none⟩ = some p ∧ W.cell? ⟨b, o + 1, none⟩ = some q ∧ W.cell? ⟨b, o + 2, none⟩ = some r ∧ W.cell? ⟨b, o + 3, none⟩ = some s ∧ W.cell? ⟨b2, o2, none⟩ = some c ∧ W.cell? ⟨b', o', none⟩ = some p' ∧ W.cell? ⟨b', o' + 1, none⟩ = some q' ∧ W.cell? ⟨b', o' + 2, none⟩ = some r' ∧ W.cell? ⟨b', o' + 3, none⟩ = some s' := by
  obtain ⟨h1, h2, h3, h4⟩ := h.below hl hb
  obtain ⟨h5, h6, h7, h8⟩ := h'.below hl' hb
  exact ⟨h1, h2, h3, h4, (bcells hb _ _ hl2).trans hc, h5, h6, h7, h8⟩

set_option maxHeartbeats 6400000 in
theorem vecUnits_any (w : World) (ao : Option Addr) (k ca : Nat) (L : List (List RQ)) (z : Int) (hk : k = L.length) (hM : RawTab w ao ca L) (hz0 : 0 ≤ z) (hz1 : z ≤ 255) :
    Calls Try.prog 7 #[.slice ao k ca, .int .u8 z] w fun e w' => e = .returned (.bool true) ∧ Below w.heap.size w w' := by
  obtain ⟨i0, hi, hq0, hq1, hq2⟩ := info_parts Try.infoRat
  obtain ⟨j, rfl⟩ : ∃ j : Nat, z = j := ⟨z.toNat, by omega⟩
  have fk : k ≤ 9223372036854775807 := by have h1 := hM.1; have h2 := hM.2.1; unfold maxLen at h2; omega
  have HM := hid hM
  have HK := hid hk
  clear hM hk
  go_enter Try.func7, Try.ntmps7
  go_wp2_with fail
  refine (great4_any _ _ _ _ L HK.out HM.out).mono ?_
  rintro e W0 ⟨b, rfl, hsm, rfl⟩
  cases b
  · have HS := hid (hsm rfl)
    clear hsm
    have hT := HM.out.qtab HS.out.2
    have hkM : k = (L.map (List.map RQ.r)).length := by rw [List.length_map]; exact HK.out
    have hk200 : k ≤ 200 := by
      have h1 := HS.out.1
      have h2 := rowSum_len L
      have := HK.out
      omega
    generalize L.map (List.map RQ.r) = M at *
    have HT := hid hT
    have HKM := hid hkM
    clear hT hkM HM HK HS
    by_cases hk0 : k = 0
    · subst hk0
      go_wp2_with fail
      refine (awake4_any _).mono ?_
      rintro e W4 ⟨rfl, hb⟩
      have HR := hid hb
      clear hb
      go_wp2
      go_ret
      exact ⟨rfl, HR.out⟩
    · have hki : ¬ (k : Int) = 0 := by omega
      have hkb : ((k : Int) == 0) = false := by simp; omega
      go_wp2_with fail
      refine (cut_any _ _ _ _ 4 6 M HKM.out (by omega) (by omega) (by omega) HT.out).mono ?_
      rintro e V1 ⟨ma, mc, rfl, hT1, hb1⟩
      have HKC : Hid (k = (cutT M 4).length) := hid (by rw [cutT_len]; exact HKM.out)
      have HWC : Hid (∀ R ∈ cutT M 4, R.length = 4) := hid (cutT_wide M 4)
      generalize cutT M 4 = M1 at *
      have HT1 := hid hT1
      clear hT1 HT HKM
      obtain ⟨p, hp⟩ : ∃ p : Nat, p = j % 4 := ⟨_, rfl⟩
      obtain ⟨q, hq⟩ : ∃ q : Nat, q = j % k := ⟨_, rfl⟩
      have hpi : (j : Int) % 4 = (p : Int) := by omega
      have hqi : (j : Int) % (k : Int) = (q : Int) := by rw [hq, Int.natCast_emod]
      have hp4 : p < 4 := by omega
      have hqk : q < k := by rw [hq]; exact Nat.mod_lt _ (by omega)
      clear hp hq
      go_wp2_with fail
      go_quiet (fail)
      have hbq : Below V1.heap.size V1 (V1.drewN nq) := below_drewN (Below.refl _ _) nq
      replace hb1 := below_call hb1 hbq hb1.size
      replace HT1 := hid (HT1.out.below hbq)
      clear hbq
      generalize V1.drewN nq = V2 at *
      go_wp2_with (at_make; first
        | (refine wpList_make_full _ rfl _ _ 48 rfl V2.heap.size 37 i0 (.agg #[.bool false, .slice none 0 0, .bool false, .slice none 0 0]) 4 Try.underlying48 hi hq0 hq1 .i64 .i64 _ _ 4 rfl rfl (by omega) (by omega) (by rw [hq2]; omega) (by unfold maxLen; omega) (by simp) ?_; intro w3 hown hgrow; have hU3 := made4 _ _ _ _ hown; have hQ3 := made_qsl hown (by unfold maxLen; omega) 6; have hb3 : Below V2.heap.size V2 w3 := (Below.refl _ _).grown hgrow (Nat.le_refl _) (by simp); clear hown hgrow)
        | (go_must (refine wpList_make_full _ rfl _ _ 48 rfl w3.heap.size 37 i0 (.agg #[.bool false, .slice none 0 0, .bool false, .slice none 0 0]) 4 Try.underlying48 hi hq0 hq1 .i64 .i64 _ _ k rfl rfl (by omega) (by omega) (by rw [hq2]; omega) (by unfold maxLen; omega) (by simp) ?_); intro w4 hown hgrow; have hU4 := made4 _ _ _ _ hown; have hQ4 := made_qsl hown (by unfold maxLen; omega) 6; have hb4 : Below w3.heap.size w3 w4 := (Below.refl _ _).grown hgrow (Nat.le_refl _) (by simp); clear hown hgrow))
      have hgl : V2.heap.size < w3.heap.size := hU3.lt
      generalize hg1 : V2.heap.size = g1 at *
      generalize hg2 : w3.heap.size = g2 at *
      have hB4 : Below g1 V2 w4 := hb3.trans (hb4.mono (by omega))
      replace hU3 := hU3.keep (by rw [hg2]; exact hb4)
      replace hQ3 := hQ3.below (by rw [hg2]; exact hb4)
      have HG1 := hid hg1
      clear hb3 hb4 hg1 hg2
      refine (ofRat_any _ 1 (by omega) (by omega)).mono ?_
      rintro e w5 ⟨n1, a1, k1, c1, n2, a2, k2, c2, rfl, hI5, hb5⟩
      replace hU3 := hU3.keep hb5
      replace hQ3 := hQ3.below hb5
      replace hU4 := hU4.keep hb5
      replace hQ4 := hQ4.below hb5
      have hB5 := below_call hB4 hb5 (by have := hB4.size; have := HG1.out; omega)
      have hG5 := growAt w5 g1 (p * 4) (.bool n1) (.slice a1 k1 c1) (.bool n2) (.slice a2 k2 c2)
      have HU6 := hid (hU3.fill (p * 4) n1 n2 a1 a2 k1 c1 k2 c2)
      have HQ6 := hid (hQ3.setAt hU3 hp4 (hI5.arg.mono (show 2 ≤ 6 by omega)))
      have HV6 := hid (hU4.other hG5 (by omega))
      have HR6 := hid (hQ4.off' (.inr (by simp [Value.ownBlock]; omega)) hU3.no hG5)
      have HB6 := hid (below_fillAt hB5 (Nat.le_refl _) (p * 4) (.bool n1) (.slice a1 k1 c1) (.bool n2) (.slice a2 k2 c2))
      have hfz := hU3.f
      have fl := hU3.lt
      obtain ⟨v0, e0⟩ := hU3.has (p * 4) (by omega)
      obtain ⟨v1, e1⟩ := hU3.has (p * 4 + 1) (by omega)
      obtain ⟨v2, e2⟩ := hU3.has (p * 4 + 2) (by omega)
      obtain ⟨v3, e3⟩ := hU3.has (p * 4 + 3) (by omega)
      clear hU3 hQ3 hU4 hQ4 hB4 hb5 hI5 hG5 hB5
      go_wp2_with fail
      rw [fillAt_eq]
      clear e0 e1 e2 e3 hfz fl
      generalize fillAt w5 g1 (p * 4) (.bool n1) (.slice a1 k1 c1) (.bool n2) (.slice a2 k2 c2) = w6 at *
      refine (ofRat_any _ 1 (by omega) (by omega)).mono ?_
      rintro e w7 ⟨n3, a3, k3, c3, n4, a4, k4, c4, rfl, hI7, hb7⟩
      have hQ3 := HQ6.out.below hb7
      have hU4 := HV6.out.keep hb7
      have hQ4 := HR6.out.below hb7
      have hB7 := below_call HB6.out hb7 (by have := HB6.out.size; have := HG1.out; omega)
      have hG7 := growAt w7 g2 (q * 4) (.bool n3) (.slice a3 k3 c3) (.bool n4) (.slice a4 k4 c4)
      have HQ8 := hid (hQ3.off' (.inr (by simp [Value.ownBlock]; omega)) hU4.no hG7)
      have HR8 := hid (hQ4.setAt hU4 hqk (hI7.arg.mono (show 2 ≤ 6 by omega)))
      have HB8 := hid (below_fillAt (g := g2) hB7 (show g1 ≤ g2 by omega) (q * 4) (.bool n3) (.slice a3 k3 c3) (.bool n4) (.slice a4 k4 c4))
      have hfz := hU4.f
      have fl := hU4.lt
      obtain ⟨v0, e0⟩ := hU4.has (q * 4) (by omega)
      obtain ⟨v1, e1⟩ := hU4.has (q * 4 + 1) (by omega)
      obtain ⟨v2, e2⟩ := hU4.has (q * 4 + 2) (by omega)
      obtain ⟨v3, e3⟩ := hU4.has (q * 4 + 3) (by omega)
      clear hQ3 hU4 hQ4 hb7 hI7 hG7 hB7 HU6 HQ6 HV6 HR6 HB6
      go_wp2_with fail
      rw [fillAt_eq]
      clear e0 e1 e2 e3 hfz fl
      generalize fillAt w7 g2 (q * 4) (.bool n3) (.slice a3 k3 c3) (.bool n4) (.slice a4 k4 c4) = w8 at *
      have HEU : Hid (timesR M1 ((List.replicate 4 0).set p 1) = colR M1 p) := hid (times_unit HWC.out hp4)
      have hqM : q < M1.length := by rw [← HKC.out]; exact hqk
      have HEL : Hid (timesR (cols M1 4) ((List.replicate k 0).set q 1) = M1[q]) := hid (by
        have h := left_unit HWC.out hqM
        rw [← HKC.out] at h
        exact h)
      have HLU : Hid (((List.replicate 4 (0 : Rat)).set p 1).length = 4) := hid (by simp)
      generalize (List.replicate 4 (0 : Rat)).set p 1 = Up at *
      generalize (List.replicate k (0 : Rat)).set q 1 = Uq at *
      have hB8 : Below V2.heap.size V2 w8 := by rw [HG1.out]; exact HB8.out
      replace HT1 := hid (HT1.out.below hB8)
      have hW8 := below_call hb1 hB8 hb1.size
      clear hB8 HB8 hb1
      refine (Times_any _ _ _ _ _ 4 _ 6 6 M1 Up HKC.out (by omega) HT1.out HQ8.out (wide_of HWC.out) (by omega) (by omega) (by rw [HLU.out]; omega)).mono ?_
      rintro e w9 ⟨ta, tk, tc, rfl, htk, hQ9, hb9⟩
      rw [timesR_len, ← HKC.out] at htk
      subst htk
      rw [HLU.out, HEU.out] at hQ9
      have hW9 := below_call hW8 hb9 hW8.size
      replace HT1 := hid (HT1.out.below hb9)
      replace HR8 := hid (HR8.out.below hb9)
      have HQ9 := hid hQ9
      clear hb9 hW8 hQ9 HQ8 HEU HLU
      go_wp2_with fail
      refine (Left_any _ _ _ _ _ _ 4 6 6 M1 Uq HKC.out (by omega) (by omega) HT1.out HR8.out (wide_of HWC.out) (by omega) (by omega) (by omega)).mono ?_
      rintro e wA ⟨la, lk, lc, rfl, hlk, hQA, hbA⟩
      rw [timesR_len, cols_len] at hlk
      subst hlk
      rw [HEL.out] at hQA
      have hWA := below_call hW9 hbA hW9.size
      replace HT1 := hid (HT1.out.below hbA)
      replace HQ9 := hid (HQ9.out.below hbA)
      have HQA := hid hQA
      clear hbA hW9 hQA HR8 HEL
      go_wp2_with fail
      refine (ve_num (VE.none _) _).mono ?_
      rintro e wB ⟨rfl, -, hbB⟩
      have hWB := below_call hWA hbB hWA.size
      replace HT1 := hid (HT1.out.below hbB)
      replace HQ9 := hid (HQ9.out.below hbB)
      replace HQA := hid (HQA.out.below hbB)
      clear hbB hWA
      go_wp2_with fail
      refine (ve_num (VE.none _) _).mono ?_
      rintro e wC ⟨rfl, -, hbC⟩
      have hWC := below_call hWB hbC hWB.size
      replace HT1 := hid (HT1.out.below hbC)
      replace HQ9 := hid (HQ9.out.below hbC)
      replace HQA := hid (HQA.out.below hbC)
      clear hbC hWB
      obtain ⟨b1, o1, rfl, l1, hc⟩ := HT1.out.at (by omega)
      have HC := hid hc
      obtain ⟨a5, k5, c5, hcell, hq5⟩ := hc q hqM
      have HQ5 := hid hq5
      have hqk' : (q : Int) < (tk : Int) := by omega
      clear hc hq5
      go_wp2_with fail
      refine (rats_any _ _ _ _ _ _ _ ((6 + 6) * tk + 1) 6 M1[q] M1[q] HQA.out.sl HQ5.out (by omega) (by omega)).mono ?_
      rintro e wD ⟨rfl, hbD⟩
      rw [decide_eq_true rfl]
      have hWD := below_call hWC hbD hWC.size
      replace HT1 := hid (HT1.out.below hbD)
      replace HQ9 := hid (HQ9.out.below hbD)
      clear hbD hWC HQA HQ5 HC hcell l1
      have HLC : Hid ((colR M1 p).length = tk) := hid (by rw [colR, List.length_map]; exact HKC.out.symm)
      go_wp2
      go_loopw [14] (fun iv wr => ∃ i : Nat, i ≤ tk ∧ iv = .int .i64 i ∧ Below wD.heap.size wD wr) (fun iv wr => tk - (intOf iv).toNat)
      case atStart => exact ⟨0, Nat.zero_le _, rfl, Below.refl _ _⟩
      case round =>
        obtain ⟨i, hik, rfl, HBW⟩ := hrel
        by_cases hlt : i < tk
        · have hiM : i < M1.length := by rw [← HKC.out]; exact hlt
          have hiC : i < (colR M1 p).length := by rw [HLC.out]; exact hlt
          obtain ⟨bc, oc, rfl, lc1, hcc⟩ := HQ9.out.sl.cellsAt (by omega)
          obtain ⟨n5, a5', k5', c5', n6, a6, k6, c6, hC1, hX⟩ := hcc i hiC
          obtain ⟨b3, o3, eb, l3, hrow⟩ := HT1.out.at (by omega)
          simp only [Option.some.injEq, Addr.mk.injEq, and_true] at eb
          obtain ⟨rfl, rfl⟩ := eb
          obtain ⟨a7, k7, c7, hcell, hq7⟩ := hrow i hiM
          have h4 : M1[i].length = 4 := HWC.out _ (List.getElem_mem hiM)
          have hp7 : p < M1[i].length := by omega
          obtain ⟨b2, o2, rfl, l2, hcr⟩ := hq7.cellsAt (by omega)
          obtain ⟨n7, a8, k8, c8, n8, a9, k9, c9, hC2, hY⟩ := hcr p hp7
          obtain rfl : 4 = k7 := by have := hq7.len.1; omega
          have hEQ : (colR M1 p)[i] = M1[i][p] := by
            simp only [colR, List.getElem_map]
            rw [List.getD_eq_getElem?_getD, List.getElem?_eq_getElem hp7]
            rfl
          have HX := hid hX
          have HY := hid hY
          have HZ : Hid (cmpR (colR M1 p)[i] M1[i][p] = 0) := hid ((cmpR_zero _ _).2 hEQ)
          have hCE := hcell
          clear hX hY hcc hcr hrow hq7 hEQ hcell
          generalize (colR M1 p)[i] = rx at *
          generalize M1[i][p] = ry at *
          replace HBW := HBW.drew
          have hpI : (p : Int) < 4 := by omega
          have hpI2 : (p : Int) < ((4 : Nat) : Int) := by omega
          have hpI0 : (0 : Int) ≤ (p : Int) := by omega
          go_wp2
          go_region_held3 (fun W' => W'.cell? ⟨bc, oc + i * 4, none⟩ = some (.bool n5) ∧ W'.cell? ⟨bc, oc + i * 4 + 1, none⟩ = some (.slice a5' k5' c5') ∧ W'.cell? ⟨bc, oc + i * 4 + 2, none⟩ = some (.bool n6) ∧ W'.cell? ⟨bc, oc + i * 4 + 3, none⟩ = some (.slice a6 k6 c6) ∧ W'.cell? ⟨b1, o1 + i, none⟩ = some (.slice (some ⟨b2, o2, none⟩) 4 c7) ∧ W'.cell? ⟨b2, o2 + p * 4, none⟩ = some (.bool n7) ∧ W'.cell? ⟨b2, o2 + p * 4 + 1, none⟩ = some (.slice a8 k8 c8) ∧ W'.cell? ⟨b2, o2 + p * 4 + 2, none⟩ = some (.bool n8) ∧ W'.cell? ⟨b2, o2 + p * 4 + 3, none⟩ = some (.slice a9 k9 c9)) (exact keepU hC1 lc1 hCE l3 hC2 l2 HBW) (first
            | (go_at_call 32; go_must (refine (cmpRat_any _ _ _ ((6 + 6) * 4 + 1) 6 rx ry (HX.out.below HBW) (HY.out.below HBW) (by omega) (by omega)).mono ?_); rintro e w1 ⟨rfl, hb⟩; rw [HZ.out]; have HBn := below_call HBW hb HBW.size; clear HBW hb; have HBW := HBn; clear HBn))
          have HBW2 := hid HBW
          clear HBW
          go_wp2
          go_roundw
          case rel => exact ⟨i + 1, by omega, by go_num, HBW2.out⟩
          case measure => simp [intOf]; omega
        · have HB := hid (below_call hWD HBW hWD.size)
          clear HBW hWD
          go_wp2_with fail
          refine (awake4_any _).mono ?_
          rintro e W4 ⟨rfl, hb⟩
          have HR := hid (below_call HB.out hb HB.out.size)
          clear hb
          go_wp2
          go_ret
          exact ⟨rfl, HR.out⟩
  · clear hsm HM
    go_wp2_with fail
    refine (awake4_any _).mono ?_
    rintro e W4 ⟨rfl, hb⟩
    have HR := hid hb
    clear hb
    go_wp2
    go_ret
    exact ⟨rfl, HR.out⟩

end Go.Proofs.Ytkoadlacdgdemaa
