/-
  Rows of quotients that grow by rows that came in, and by noughts; tables that grow.
  The law VecLong.
-/
import Derived.Test.YtkoadlacdgdemaaVB
import Derived.Test.YtkoadlacdgdemaaVC
import Derived.Lib.AppendZerosOnto
import Derived.Deep.Upon

namespace Go.Proofs.Ytkoadlacdgdemaa
open Go.RowKit Lm
set_option linter.unusedSimpArgs false
set_option linter.unusedVariables false
set_option maxRecDepth 100000

def zeroQ : QV := ⟨false, none, 0, 0, false, none, 0, 0⟩
theorem zeros_flat (k : Nat) : (Builtin.zeroCells (Value.agg #[.bool false, .slice none 0 0, .bool false, .slice none 0 0]).cells k).toList = flat (List.replicate k zeroQ) := by
  have hcells : (Value.agg #[.bool false, .slice none 0 0, .bool false, .slice none 0 0]).cells = #[.bool false, .slice none 0 0, .bool false, .slice none 0 0] := rfl
  rw [hcells]
  have hlen := flat_len (List.replicate k zeroQ)
  rw [List.length_replicate] at hlen
  unfold Builtin.zeroCells
  refine List.ext_getElem (by simp [hlen]) fun j h1 h2 => ?_
  have hj : j < k * 4 := by omega
  have hq : j / 4 < (List.replicate k zeroQ).length := by simp; omega
  obtain ⟨f0, f1, f2, f3⟩ := flat_get (List.replicate k zeroQ) (j / 4) hq
  rw [List.getElem_replicate] at f0 f1 f2 f3
  have key : ∀ u, (flat (List.replicate k zeroQ))[j]? = some u → u = (flat (List.replicate k zeroQ))[j] := fun u hu => by
    rw [List.getElem?_eq_getElem h2] at hu
    simpa using hu.symm
  simp only [Array.toList_map, List.getElem_map, Array.toList_range, List.getElem_range]
  have h4 : j % 4 = 0 ∨ j % 4 = 1 ∨ j % 4 = 2 ∨ j % 4 = 3 := by omega
  rcases h4 with h4 | h4 | h4 | h4
  · rw [show j / 4 * 4 = j by omega] at f0
    rw [← key _ f0]
    show #[Value.bool false, Value.slice none 0 0, Value.bool false, Value.slice none 0 0][j % 4]! = _
    rw [h4]; rfl
  · rw [show j / 4 * 4 + 1 = j by omega] at f1
    rw [← key _ f1]
    show #[Value.bool false, Value.slice none 0 0, Value.bool false, Value.slice none 0 0][j % 4]! = _
    rw [h4]; rfl
  · rw [show j / 4 * 4 + 2 = j by omega] at f2
    rw [← key _ f2]
    show #[Value.bool false, Value.slice none 0 0, Value.bool false, Value.slice none 0 0][j % 4]! = _
    rw [h4]; rfl
  · rw [show j / 4 * 4 + 3 = j by omega] at f3
    rw [← key _ f3]
    show #[Value.bool false, Value.slice none 0 0, Value.bool false, Value.slice none 0 0][j % 4]! = _
    rw [h4]; rfl

theorem ownQ_new {w : World} {base : Nat} (hb : base ≤ w.heap.size) (M : List QV) (n cap : Nat) (hn : n = M.length) (hc : n ≤ cap) (hm : cap ≤ maxLen) (cur : Array Value) (hcur : cur.toList = flat M ++ (Builtin.zeroCells (Value.agg #[.bool false, .slice none 0 0, .bool false, .slice none 0 0]).cells (cap - n)).toList) : OwnQ (w.alloc (.cells cur 37)) base (.slice (some ⟨w.heap.size, 0, none⟩) n cap) M := by
  subst hn
  refine ⟨⟨flat_len M, .inr ⟨w.heap.size, cap, cur, rfl, hb, heap_alloc_new w _, hc, hm, ?_, ?_⟩⟩, fun g hg => ?_⟩
  · rw [← Array.length_toList, hcur, List.length_append, zeros_flat, flat_len, flat_len, List.length_replicate, ← Nat.add_mul]
    congr 1
    omega
  · rw [hcur, ← flat_len M]
    exact List.take_left
  · simp only [Value.ownBlock, Option.some.injEq] at hg
    subst hg
    refine noLimb_of (heap_alloc_new w _) ?_
    intro u hu z
    rw [hcur, zeros_flat, List.mem_append] at hu
    rcases hu with hu | hu
    · exact flat_no M u hu z
    · exact flat_no _ u hu z

theorem run_append_room_zeros {P : Program} (w : World) (t tn ty e : TypeId) (i : TypeInfo) (z : Value) (kq kn : IntKind) (ht : P.underlying t = some (.slice e)) (htn : P.underlying tn = some (.int kn)) (hi : P.info? e = some i) (hz : i.zero = some z)
    (g sLen sCap : Nat) (cur : Array Value) (hg : w.heap[g]? = some (.cells cur e (0, 0))) (k : Nat) (h0 : 0 < k) (hs : 0 < i.size) (h63 : (k : Int) ≤ 9223372036854775807) (h48 : k * i.bytes ≤ 281474976710656) (h1 : ∀ u ∈ (Builtin.zeroCells z.cells k).toList, u.oneCell' = true)
    (hroom : sLen + k ≤ sCap) (hfit : sLen * i.size + (Builtin.zeroCells z.cells k).toList.length ≤ cur.size) :
    (Builtin.append_ #[t, tn] ty #[.slice (some ⟨g, 0, none⟩) sLen sCap, .int kq k]).run P w =
      .ok (.slice (some ⟨g, 0, none⟩) (sLen + k) sCap) (w.setRow g (cur.toList.take (sLen * i.size) ++ (Builtin.zeroCells z.cells k).toList ++ cur.toList.drop (sLen * i.size + (Builtin.zeroCells z.cells k).toList.length)).toArray) := by
  have hk : k ≠ 0 := by omega
  have hw : IntKind.i64.wrap (k : Int) = k := by rw [IntKind.wrap_i64]; omega
  have h48i : ¬ (281474976710656 < (k : Int) * (i.bytes : Int)) := by
    rw [← Int.natCast_mul]
    omega
  have hneg : ¬ ((k : Int) < 0) := by omega
  have hns : ¬ (k * i.size = 0) := Nat.mul_ne_zero hk (by omega)
  have hst := run_storeCells_at P g (sLen * i.size) e (Builtin.zeroCells z.cells k).toList 0 cur w hg (by simpa using hfit) h1
  simp only [Nat.add_zero] at hst
  simp [Builtin.append_, run_underlying ht, run_underlying htn, sizeOf, typeInfo, zeroValue, hi, hz, asInt, asIntOf, hw, hneg, hns, h48i, hroom, Addr.add_lit, hst]

theorem ownQ_room {w : World} {base g n cap k : Nat} {cur : Array Value} {L M : List QV} (hL : n = L.length) (hk : k = M.length) (hbg : base ≤ g) (hg : w.heap[g]? = some (.cells cur 37 (0, 0))) (hroom : n + k ≤ cap) (hcm : cap ≤ maxLen) (hcs : cur.size = cap * 4) (htake : cur.toList.take (n * 4) = flat L) (hno : NoLimb w g) :
    OwnQ (w.setRow g (cur.toList.take (n * 4) ++ flat M ++ cur.toList.drop (n * 4 + (flat M).length)).toArray) base (.slice (some ⟨g, 0, none⟩) (n + k) cap) (L ++ M) := by
  have hlM := flat_len M
  have hlen : (flat L ++ flat M).length = (n + k) * 4 := by rw [List.length_append, flat_len, flat_len]; omega
  have hno2 : ∀ u ∈ cur.toList, ∀ z, u ≠ .int .u32 z := by
    intro u hu z e
    obtain ⟨j, hj, rfl⟩ := List.getElem_of_mem hu
    refine hno j z ?_
    rw [cell_of_row w g j cur _ _ hg, Array.getElem?_eq_getElem (by simpa using hj)]
    simpa using e
  refine ⟨⟨by rw [flat_len], .inr ⟨g, cap, _, by rw [List.length_append, ← hL, ← hk], hbg, setRow_heap w g cur _ _ _ hg, by rw [List.length_append, ← hL, ← hk]; exact hroom, hcm, ?_, ?_⟩⟩, fun g' hg' => ?_⟩
  · simp only [List.size_toArray, List.length_append, List.length_take, List.length_drop, Array.length_toList]
    omega
  · rw [htake, List.length_append, ← hL, ← hk, ← hlen, flat_app]
    exact List.take_left
  · simp only [Value.ownBlock, Option.some.injEq] at hg'
    subst hg'
    refine noLimb_of (setRow_heap w g cur _ _ _ hg) ?_
    intro u hu z
    simp only [List.mem_append] at hu
    rcases hu with (hu | hu) | hu
    · exact hno2 u (List.mem_of_mem_take hu) z
    · exact flat_no M u hu z
    · exact hno2 u (List.mem_of_mem_drop hu) z

/-- So many noughts more. -/
theorem run_append_z {w : World} (ty : TypeId) (base : Nat) (v : Value) (L : List QV) (hown : OwnQ w base v L) (k : Nat) (h0 : 0 < k) (hk : L.length + k ≤ 1000000) (hbase : base ≤ w.heap.size) :
    ∃ v' w', (Builtin.append_ #[48, 3] ty #[v, .int .i64 (k : Int)]).run Try.prog w = .ok v' w' ∧ OwnQ w' base v' (L ++ List.replicate k zeroQ) ∧ w.grownBy w' v.ownBlock := by
  obtain ⟨i0, hi, hz0, hz1, hz2⟩ := info_parts Try.infoRat
  have hlz : (Builtin.zeroCells (Value.agg #[.bool false, .slice none 0 0, .bool false, .slice none 0 0]).cells k).toList.length = k * 4 := by rw [zeros_flat, flat_len, List.length_replicate]
  rcases hown.1.2 with ⟨rfl, hl0⟩ | ⟨g0, cap, cur, rfl, hbg, hg, hnc, hcm, hcs, htake⟩
  · obtain rfl : L = [] := List.eq_nil_of_length_eq_zero hl0
    have e := Go.Lib.run_append_nil_zeros (P := Try.prog) w 48 3 ty 37 i0 _ .i64 .i64 Try.underlying48 Try.underlying3 hi hz0 k h0 (by omega) (by omega) (by rw [hz2]; simp at hk; omega)
    refine ⟨_, _, e, ?_, ⟨rfl, rfl, rfl, by simp, fun q hq _ => heap_alloc_old w.drew _ hq⟩⟩
    refine ownQ_new (w := w.drew) hbase (List.replicate k zeroQ) k _ (by simp) (grownCap_ge w k 0 _) (grownCap_le_maxLen w k 0 _ (by unfold maxLen; simp at hk; omega)) _ ?_
    rw [Array.toList_append, zeros_flat]
  · by_cases hroom : L.length + k ≤ cap
    · have e := run_append_room_zeros (P := Try.prog) w 48 3 ty 37 i0 _ .i64 .i64 Try.underlying48 Try.underlying3 hi hz0 g0 L.length cap cur hg k h0 (by omega) (by omega) (by rw [hz2]; omega) (by rw [zeros_flat]; exact flat_one _) hroom (by rw [hlz, hz1, hcs, ← Nat.add_mul]; exact Nat.mul_le_mul_right _ hroom)
      refine ⟨_, _, e, ?_, ⟨rfl, rfl, rfl, by simp, fun q _ hq => setRow_other w g0 q _ (fun e => hq (by simp [Value.ownBlock, e]))⟩⟩
      rw [zeros_flat, hz1]
      exact ownQ_room rfl (by simp) hbg hg hroom hcm hcs htake (hown.2 g0 rfl)
    · have holds : ∀ j u, (flat L)[j]? = some u → w.drew.cell? ((⟨g0, 0, none⟩ : Addr).add j) = some u := hown.1.cells (g := g0) rfl
      have e := Go.Lib.run_append_grow_zeros (P := Try.prog) w 48 3 ty 37 i0 _ .i64 .i64 Try.underlying48 Try.underlying3 hi hz0 (some ⟨g0, 0, none⟩) L.length cap (flat L) (run_firstCells_some w.drew i0.size L.length ⟨g0, 0, none⟩ L.length cap (flat L) (by rw [hz1]; exact flat_len L) holds) k h0 (by omega) (by omega) (by omega) (by rw [hz2]; omega) (growslice_fits (by omega) (by rw [hz2]; omega))
      refine ⟨_, _, e, ?_, ⟨rfl, rfl, rfl, by simp, fun q hq _ => heap_alloc_old w.drew _ hq⟩⟩
      refine ownQ_new (w := w.drew) hbase (L ++ List.replicate k zeroQ) _ _ (by simp) (grownCap_ge w _ cap _) (grownCap_le_maxLen w _ cap _ (by unfold maxLen; omega)) _ ?_
      rw [Array.toList_append, Array.toList_append, zeros_flat, flat_app]

/-- What a row yields when it is appended. -/
def SrcQ (w : World) (x : Value) (M : List QV) : Prop := ∃ ao c, x = .slice ao M.length c ∧ (M = [] ∨ ∃ a, ao = some a ∧ ∀ j u, (flat M)[j]? = some u → w.cell? (a.add j) = some u)
theorem run_append_s {w : World} (ty : TypeId) (base : Nat) (v x : Value) (L M : List QV) (hown : OwnQ w base v L) (hs : SrcQ w x M) (hk : L.length + M.length ≤ 1000000) (hbase : base ≤ w.heap.size) :
    ∃ v' w', (Builtin.append_ #[48, 48] ty #[v, x]).run Try.prog w = .ok v' w' ∧ OwnQ w' base v' (L ++ M) ∧ w.grownBy w' v.ownBlock := by
  obtain ⟨ao, c, rfl, h⟩ := hs
  rcases h with rfl | ⟨a, rfl, hc⟩
  · obtain ⟨i0, hi, hz0, hz1, hz2⟩ := info_parts Try.infoRat
    obtain ⟨vo, vc, rfl, hle, -⟩ := hown.len
    have hS : Src Try.prog i0.size 48 (.slice ao ([] : List QV).length c) 0 [] w := by
      cases ao with
      | none => exact Src.ofNil w Try.underlying48 c
      | some a => exact Src.ofSlice w Try.underlying48 a 0 c [] (by simp) (by simp) (by simp)
    have e := Go.run_append_nothing (P := Try.prog) w 48 48 ty 37 i0 Try.underlying48 hi vo L.length vc hle _ hS
    exact ⟨_, _, e, by rw [List.append_nil]; exact hown, ⟨rfl, rfl, rfl, Nat.le_refl _, fun _ _ _ => rfl⟩⟩
  · exact run_append_q ty base v L hown a c M hc hk hbase

/-- A row of one's own, whose quotients may be handed in. -/
def OwnArg (w : World) (base : Nat) (v : Value) (n : Nat) (R : List Rat) : Prop := ∃ L : List QV, L.length = R.length ∧ OwnQ w base v L ∧ ∀ j (h : j < L.length) (h' : j < R.length), RArg w L[j].v n R[j]
/-- .. and one that is appended. -/
def ArgSrc (w : World) (x : Value) (n : Nat) (R : List Rat) : Prop := ∃ L : List QV, L.length = R.length ∧ SrcQ w x L ∧ ∀ j (h : j < L.length) (h' : j < R.length), RArg w L[j].v n R[j]
theorem OwnArg.below {w w' : World} {base n : Nat} {v : Value} {R : List Rat} (h : OwnArg w base v n R) (hb : Below w.heap.size w w') : OwnArg w' base v n R := by
  obtain ⟨L, h1, h2, h3⟩ := h
  exact ⟨L, h1, h2.below hb, fun j hj hj' => (h3 j hj hj').below hb⟩
theorem OwnArg.qsl {w : World} {base n : Nat} {v : Value} {R : List Rat} (h : OwnArg w base v n R) : ∃ ao cap, v = .slice ao R.length cap ∧ QSl w v n R ∧ R.length ≤ cap ∧ cap ≤ maxLen := by
  obtain ⟨L, h1, h2, h3⟩ := h
  obtain ⟨ao, cap, rfl, q1, q2, q3⟩ := h2.len
  refine ⟨ao, cap, by rw [h1], ⟨ao, _, cap, rfl, h1, by omega, q2, ?_⟩, by omega, q2⟩
  rcases q3 with q3 | ⟨g, rfl, _, hg, hc⟩
  · exact .inl (by omega)
  · refine .inr ⟨g, 0, rfl, hg, fun i hi => ?_⟩
    rw [Nat.zero_add]
    obtain ⟨p1, p2, p3, p4⟩ := hc i (by omega)
    exact ⟨_, _, _, _, _, _, _, _, p1, p2, p3, p4, h3 i (by omega) hi⟩
theorem OwnArg.lt {w : World} {base n : Nat} {v : Value} {R : List Rat} (h : OwnArg w base v n R) : ∀ g, v.ownBlock = some g → base ≤ g ∧ g < w.heap.size ∧ NoLimb w g := by
  obtain ⟨L, h1, h2, h3⟩ := h
  exact fun g hg => ⟨(h2.1.lt g hg).1, (h2.1.lt g hg).2, h2.2 g hg⟩
theorem OwnArg.nil (w : World) (base n : Nat) : OwnArg w base (.slice none 0 0) n [] := ⟨[], rfl, ownQ_nil _ _, fun j h => by simp at h⟩
/-- An empty literal. -/
theorem OwnArg.lit {w : World} {base n g : Nat} (hb : base ≤ w.heap.size) (hg : g = w.heap.size) : OwnArg (w.alloc (.cells #[] 37)) base (.slice (some ⟨g, 0, none⟩) 0 0) n [] := by
  subst hg
  exact ⟨[], rfl, ownQ_new hb [] 0 0 rfl (Nat.le_refl _) (by unfold maxLen; omega) #[] (by simp [flat, Builtin.zeroCells]), fun j h => by simp at h⟩
theorem rarg_move {w w' : World} {base : Nat} {v : Value} {L : List QV} (h2 : OwnQ w base v L) (hg : w.grownBy w' v.ownBlock) {u : Value} {n : Nat} {x : Rat} (hx : RArg w u n x) : RArg w' u n x := by
  cases hv : v.ownBlock with
  | none =>
    rw [hv] at hg
    exact hx.offL (g := w.heap.size) (fun j z e => by have := World.block_lt_of_cell? w _ e; simp at this) ⟨hg.os, hg.tape, hg.output, hg.size, fun k hk _ => hg.block k hk (by simp)⟩
  | some g =>
    rw [hv] at hg
    exact hx.offL (h2.2 g hv) hg
theorem run_append_arg {w : World} (ty : TypeId) (base n : Nat) (v x : Value) (R S : List Rat) (hO : OwnArg w base v n R) (hS : ArgSrc w x n S) (hk : R.length + S.length ≤ 1000000) (hbase : base ≤ w.heap.size) :
    ∃ v' w', (Builtin.append_ #[48, 48] ty #[v, x]).run Try.prog w = .ok v' w' ∧ OwnArg w' base v' n (R ++ S) ∧ w.grownBy w' v.ownBlock := by
  obtain ⟨L, h1, h2, h3⟩ := hO
  obtain ⟨M, m1, m2, m3⟩ := hS
  obtain ⟨v', w', hr, hq, hg⟩ := run_append_s ty base v x L M h2 m2 (by omega) hbase
  refine ⟨v', w', hr, ⟨L ++ M, by simp [h1, m1], hq, fun j hj hj' => ?_⟩, hg⟩
  by_cases hl : j < L.length
  · rw [List.getElem_append_left hl, List.getElem_append_left (by omega)]
    exact rarg_move h2 hg (h3 j hl (by omega))
  · simp at hj hj'
    rw [List.getElem_append_right (by omega), List.getElem_append_right (by omega)]
    have := rarg_move h2 hg (m3 (j - L.length) (by omega) (by omega))
    simpa [h1] using this
theorem run_append_argz {w : World} (ty : TypeId) (base n : Nat) (v : Value) (R : List Rat) (hO : OwnArg w base v n R) (k : Nat) (h0 : 0 < k) (hk : R.length + k ≤ 1000000) (hbase : base ≤ w.heap.size) :
    ∃ v' w', (Builtin.append_ #[48, 3] ty #[v, .int .i64 (k : Int)]).run Try.prog w = .ok v' w' ∧ OwnArg w' base v' n (R ++ List.replicate k 0) ∧ w.grownBy w' v.ownBlock := by
  obtain ⟨L, h1, h2, h3⟩ := hO
  obtain ⟨v', w', hr, hq, hg⟩ := run_append_z ty base v L h2 k h0 (by omega) hbase
  refine ⟨v', w', hr, ⟨_, by simp [h1], hq, fun j hj hj' => ?_⟩, hg⟩
  by_cases hl : j < L.length
  · rw [List.getElem_append_left hl, List.getElem_append_left (by omega)]
    exact rarg_move h2 hg (h3 j hl (by omega))
  · simp at hj hj'
    rw [List.getElem_append_right (by omega), List.getElem_append_right (by omega), List.getElem_replicate, List.getElem_replicate]
    exact (rarg_zero w').mono (Nat.zero_le _)
theorem exL {α : Type} {P : Nat → α → Prop} : ∀ n : Nat, (∀ i, i < n → ∃ x, P i x) → ∃ L : List α, L.length = n ∧ ∀ i (h : i < L.length), P i L[i]
  | 0, _ => ⟨[], rfl, fun i h => by simp at h⟩
  | n + 1, h => by
    obtain ⟨L, h1, h2⟩ := exL n (fun i hi => h i (by omega))
    obtain ⟨x, hx⟩ := h n (by omega)
    refine ⟨L ++ [x], by simp [h1], fun i hi => ?_⟩
    by_cases hl : i < L.length
    · rw [List.getElem_append_left hl]; exact h2 i hl
    · simp at hi
      have : i = n := by omega
      subst this
      rw [List.getElem_append_right (by omega)]
      simpa [h1] using hx
/-- The beginning of a row, to be appended. -/
theorem QAt.src {w : World} {ao : Option Addr} {cap n : Nat} {R : List Rat} (h : QAt w ao cap n R) (j : Nat) (hj : j ≤ R.length) : ArgSrc w (.slice ao j cap) n (R.take j) := by
  by_cases h0 : j = 0
  · subst h0
    exact ⟨[], by simp, ⟨ao, cap, rfl, .inl rfl⟩, fun i hi => by simp at hi⟩
  · obtain ⟨b, off, rfl, hb⟩ := h.spot (by omega)
    have hel : ∀ i, i < j → ∃ q : QV, At4 w b (off + i * 4) (.bool q.n1) (.slice q.a1 q.k1 q.c1) (.bool q.n2) (.slice q.a2 q.k2 q.c2) ∧ ∀ (h' : i < R.length), RArg w q.v n R[i] := by
      intro i hi
      obtain ⟨n1, a1, k1, c1, n2, a2, k2, c2, p1, p2, p3, p4, pA⟩ := (h.at i (by omega)).1
      exact ⟨⟨n1, a1, k1, c1, n2, a2, k2, c2⟩, ⟨p1, p2, p3, p4⟩, fun _ => pA⟩
    obtain ⟨L, hL, hP⟩ := exL j hel
    refine ⟨L, by simp; omega, ⟨_, _, by rw [hL], .inr ⟨_, rfl, fun q u hu => ?_⟩⟩, fun i hi hi' => ?_⟩
    · have hlen := flat_len L
      obtain ⟨hq, -⟩ := List.getElem?_eq_some_iff.1 hu
      have hq4 : q / 4 < L.length := by omega
      obtain ⟨f0, f1, f2, f3⟩ := flat_get L (q / 4) hq4
      obtain ⟨c0, c1, c2, c3⟩ := (hP (q / 4) hq4).1
      simp only [Go.WideShapes.add_plain]
      have h4 : q % 4 = 0 ∨ q % 4 = 1 ∨ q % 4 = 2 ∨ q % 4 = 3 := by omega
      rcases h4 with h4 | h4 | h4 | h4
      · rw [show q / 4 * 4 = q by omega] at f0 c0
        rw [c0, ← f0, hu]
      · rw [show off + q / 4 * 4 + 1 = off + q by omega] at c1
        rw [show q / 4 * 4 + 1 = q by omega] at f1
        rw [c1, ← f1, hu]
      · rw [show off + q / 4 * 4 + 2 = off + q by omega] at c2
        rw [show q / 4 * 4 + 2 = q by omega] at f2
        rw [c2, ← f2, hu]
      · rw [show off + q / 4 * 4 + 3 = off + q by omega] at c3
        rw [show q / 4 * 4 + 3 = q by omega] at f3
        rw [c3, ← f3, hu]
    · rw [List.getElem_take]
      exact (hP i hi).2 _
theorem argSrc_one {w : World} {g n : Nat} {m7 m8 : Bool} {d7 d8 : Option Addr} {j7 e7 j8 e8 : Nat} {r : Rat} (h : Box4 w g (.bool m7) (.slice d7 j7 e7) (.bool m8) (.slice d8 j8 e8)) (hr : RArg w (.agg #[.bool m7, .slice d7 j7 e7, .bool m8, .slice d8 j8 e8]) n r) : ArgSrc w (.slice (some ⟨g, 0, none⟩) 1 1) n [r] :=
  ⟨[⟨m7, d7, j7, e7, m8, d8, j8, e8⟩], rfl, ⟨_, _, rfl, .inr ⟨_, rfl, news_one h⟩⟩, fun j hj hj' => by
    have : j = 0 := by simp at hj; omega
    subst this
    exact hr⟩

theorem wpList_append_arg {ops : Array Oper} {rest : List Oper} {o : Oper} {ac : Act} {w : World} {Q : Exit → Act → World → Prop}
    (hgd : o.guard = none) (s x : Operand) (hop : o.op = Op.call { callee := Callee.builtin Builtin.append, args := #[s, x], argTypes := #[48, 48] })
    (base n : Nat) (v xv : Value) (R S : List Rat) (hs : ac.eval s = v) (hx : ac.eval x = xv) (hO : OwnArg w base v n R) (hS : ArgSrc w xv n S) (k : Nat) (hk2 : k = R.length + S.length) (hk : k ≤ 1000000) (hbase : base ≤ w.heap.size)
    (hK : ∀ ro rc w', OwnArg w' base (.slice ro k rc) n (R ++ S) → w.grownBy w' v.ownBlock → wpList Try.prog ops Q rest (ac.put o.dst (.slice ro k rc)) w') : wpList Try.prog ops Q (o :: rest) ac w := by
  refine wpList_plain hgd fun K hK' => ?_
  obtain ⟨v', w', hrun, r1, r2⟩ := run_append_arg (w := w) o.type base n v xv R S hO hS (by omega) hbase
  obtain ⟨ro, rc, e, -⟩ := r1.qsl
  rw [List.length_append, ← hk2] at e
  subst e
  unfold Oper.wp
  simp [execOp, hop, resolve, invoke, builtin, hs, hx, hrun, Result.andThen]
  exact hK' _ _ (hK ro rc w' r1 r2)
theorem step_append_arg {ops : Array Oper} {o : Oper} {ac : Act} {w : World} {K : Act → World → Prop} {Q : Exit → Act → World → Prop} {E : Prop}
    (hgd : o.guard = none) (s x : Operand) (hop : o.op = Op.call { callee := Callee.builtin Builtin.append, args := #[s, x], argTypes := #[48, 48] })
    (base n : Nat) (v xv : Value) (R S : List Rat) (hs : ac.eval s = v) (hx : ac.eval x = xv) (hO : OwnArg w base v n R) (hS : ArgSrc w xv n S) (k : Nat) (hk2 : k = R.length + S.length) (hk : k ≤ 1000000) (hbase : base ≤ w.heap.size)
    (hK : ∀ ro rc w', OwnArg w' base (.slice ro k rc) n (R ++ S) → w.grownBy w' v.ownBlock → K (ac.put o.dst (.slice ro k rc)) w') :
    if Region.wanted o (yielded ops ac.tmps) = true then Oper.wp Try.prog o ac w K Q else E := by
  have hw : Region.wanted o (yielded ops ac.tmps) = true := by simp [Region.wanted, hgd]
  rw [if_pos hw]
  obtain ⟨v', w', hrun, r1, r2⟩ := run_append_arg (w := w) o.type base n v xv R S hO hS (by omega) hbase
  obtain ⟨ro, rc, e, -⟩ := r1.qsl
  rw [List.length_append, ← hk2] at e
  subst e
  unfold Oper.wp
  simp [execOp, hop, resolve, invoke, builtin, hs, hx, hrun, Result.andThen]
  exact hK ro rc w' r1 r2
theorem wpList_append_argz {ops : Array Oper} {rest : List Oper} {o : Oper} {ac : Act} {w : World} {Q : Exit → Act → World → Prop}
    (hgd : o.guard = none) (s x : Operand) (hop : o.op = Op.call { callee := Callee.builtin Builtin.append, args := #[s, x], argTypes := #[48, 3] })
    (base n : Nat) (v : Value) (R : List Rat) (k : Nat) (hs : ac.eval s = v) (hx : ac.eval x = .int .i64 (k : Int)) (hO : OwnArg w base v n R) (h0 : 0 < k) (m : Nat) (hm : m = R.length + k) (hk : m ≤ 1000000) (hbase : base ≤ w.heap.size)
    (hK : ∀ ro rc w', OwnArg w' base (.slice ro m rc) n (R ++ List.replicate k 0) → w.grownBy w' v.ownBlock → wpList Try.prog ops Q rest (ac.put o.dst (.slice ro m rc)) w') : wpList Try.prog ops Q (o :: rest) ac w := by
  refine wpList_plain hgd fun K hK' => ?_
  obtain ⟨v', w', hrun, r1, r2⟩ := run_append_argz (w := w) o.type base n v R hO k h0 (by omega) hbase
  obtain ⟨ro, rc, e, -⟩ := r1.qsl
  rw [List.length_append, List.length_replicate, ← hm] at e
  subst e
  unfold Oper.wp
  simp [execOp, hop, resolve, invoke, builtin, hs, hx, hrun, Result.andThen]
  exact hK' _ _ (hK ro rc w' r1 r2)

/-- A row stays while another block without limbs is written. -/
theorem QSl.off' {W W' : World} {v : Value} {n g : Nat} {R : List Rat} (h : QSl W v n R) (hne : R = [] ∨ v.ownBlock ≠ some g) (hno : NoLimb W g) (hW : W.grownBy W' (some g)) : QSl W' v n R := by
  obtain ⟨ao, k, cap, rfl, hk, h1, h2, h3⟩ := h
  refine ⟨ao, k, cap, rfl, hk, h1, h2, ?_⟩
  rcases h3 with h3 | ⟨b, o, rfl, hlt, hc⟩
  · exact .inl h3
  · by_cases h0 : R.length = 0
    · exact .inl h0
    · have hb : b ≠ g := by
        rcases hne with hne | hne
        · exact absurd (by rw [hne]; rfl) h0
        · simpa [Value.ownBlock] using hne
      refine .inr ⟨b, o, rfl, Nat.lt_of_lt_of_le hlt hW.size, fun i hi => ?_⟩
      obtain ⟨n1, a1, k1, c1, n2, a2, k2, c2, q1, q2, q3, q4, q5⟩ := hc i hi
      exact ⟨n1, a1, k1, c1, n2, a2, k2, c2, hW.cell q1 (by simpa using hb), hW.cell q2 (by simpa using hb), hW.cell q3 (by simpa using hb), hW.cell q4 (by simpa using hb), q5.offL hno hW⟩
theorem QSl.none' {W W' : World} {v : Value} {n : Nat} {R : List Rat} (h : QSl W v n R) (hW : W.grownBy W' none) : QSl W' v n R :=
  h.below ⟨hW.os, hW.tape, hW.output, hW.size, fun k hk => hW.block k hk (by simp)⟩
theorem QSl.blk {W : World} {v : Value} {n : Nat} {R : List Rat} (h : QSl W v n R) : R = [] ∨ ∃ b, v.ownBlock = some b ∧ b < W.heap.size := by
  obtain ⟨ao, k, cap, rfl, hk, h1, h2, h3⟩ := h
  rcases h3 with h3 | ⟨b, o, rfl, hlt, hc⟩
  · exact .inl (List.eq_nil_of_length_eq_zero h3)
  · exact .inr ⟨b, rfl, hlt⟩

/-- A table of one's own, whose rows may be handed in. -/
def OwnTab (w : World) (base : Nat) (v : Value) (n : Nat) (M : List (List Rat)) : Prop := ∃ vs : List Value, vs.length = M.length ∧ w.ownsRow base 48 1 v M.length vs ∧ (∀ g, v.ownBlock = some g → NoLimb w g) ∧ ∀ j (h : j < vs.length) (h' : j < M.length), QSl w vs[j] n M[j] ∧ (M[j] = [] ∨ vs[j].ownBlock ≠ v.ownBlock)
theorem OwnTab.nil (w : World) (base n : Nat) : OwnTab w base (.slice none 0 0) n [] := ⟨[], rfl, World.ownsRow_nil _ _ _ _, by simp [Value.ownBlock], fun j h => by simp at h⟩
theorem OwnTab.below {w w' : World} {base n : Nat} {v : Value} {M : List (List Rat)} (h : OwnTab w base v n M) (hb : Below w.heap.size w w') : OwnTab w' base v n M := by
  obtain ⟨vs, h1, h2, h3, h4⟩ := h
  have hg : w.grownBy w' none := ⟨hb.os, hb.tape, hb.output, hb.size, fun k hk _ => hb.block k hk⟩
  refine ⟨vs, h1, h2.kept hg (by cases hv : v.ownBlock with | none => exact .inl rfl | some g => exact .inr (by simp)), fun g hv j z => ?_, fun j hj hj' => ⟨(h4 j hj hj').1.below hb, (h4 j hj hj').2⟩⟩
  rw [bcells hb g j (h2.lt g hv).2]
  exact h3 g hv j z
theorem OwnTab.lt {w : World} {base n : Nat} {v : Value} {M : List (List Rat)} (h : OwnTab w base v n M) : ∀ g, v.ownBlock = some g → base ≤ g ∧ g < w.heap.size := by
  obtain ⟨vs, h1, h2, h3, h4⟩ := h
  exact fun g hg => h2.lt g hg
theorem OwnTab.qtab {w : World} {base n : Nat} {v : Value} {M : List (List Rat)} (h : OwnTab w base v n M) : ∃ ao cap, v = .slice ao M.length cap ∧ QTab w ao cap n M := by
  obtain ⟨vs, h1, h2, h3, h4⟩ := h
  rcases h2.2 with ⟨rfl, h0⟩ | ⟨g, cap, cur, rfl, hbg, hg, hnc, hcm, hcs, htake⟩
  · exact ⟨none, 0, by rw [h0], by omega, by unfold maxLen; omega, .inl h0⟩
  · refine ⟨_, cap, rfl, hnc, hcm, .inr ⟨g, 0, rfl, (Array.getElem?_eq_some_iff.1 hg).1, fun i hi => ?_⟩⟩
    have hi' : i < vs.length := by omega
    have hc := h2.cellAt i (by omega)
    obtain ⟨a, k, c, e, h5, h6⟩ := (h4 i hi' hi).1
    rw [List.getElem?_eq_getElem hi', e] at hc
    exact ⟨a, k, c, by rw [Nat.zero_add]; exact hc, a, k, c, rfl, h5, h6⟩
theorem zero1_no (n : Nat) : ∀ u ∈ (Builtin.zeroCells (Value.slice none 0 0).cells n).toList, ∀ z, u ≠ .int .u32 z := by
  intro u hu z
  have hcells : (Value.slice none 0 0).cells = #[.slice none 0 0] := rfl
  rw [hcells] at hu
  unfold Builtin.zeroCells at hu
  simp only [Array.toList_map, List.mem_map] at hu
  obtain ⟨x, -, rfl⟩ := hu
  have h4 : x % (#[Value.slice none 0 0] : Array Value).size = 0 := by simp; omega
  rw [h4]
  simp
theorem run_append_tab {w : World} (ty : TypeId) (base n : Nat) (v : Value) (M : List (List Rat)) (hO : OwnTab w base v n M) (gx : Nat) (rv : Value) (R : List Rat) (hx : w.cell? ⟨gx, 0, none⟩ = some rv) (hr : QSl w rv n R) (hne : R = [] ∨ v.ownBlock = none ∨ rv.ownBlock ≠ v.ownBlock) (hk : M.length ≤ 1000) (hbase : base ≤ w.heap.size) :
    ∃ v' w', (Builtin.append_ #[47, 47] ty #[v, .slice (some ⟨gx, 0, none⟩) 1 1]).run Try.prog w = .ok v' w' ∧ OwnTab w' base v' n (M ++ [R]) ∧ w.grownBy w' v.ownBlock := by
  obtain ⟨i0, hi, hz0, hz1, hz2⟩ := info_parts Try.infoRow
  obtain ⟨vs, h1, h2, h3, h4⟩ := hO
  obtain ⟨ra, rk, rc, rfl, -⟩ := id hr
  have hnews : ∀ j u, ([Value.slice ra rk rc] : List Value)[j]? = some u → w.cell? ((⟨gx, 0, none⟩ : Addr).add j) = some u := by
    intro j u hu
    match j, hu with
    | 0, hu => simp at hu; subst hu; simpa [Addr.add] using hx
    | j + 1, hu => simp at hu
  have hone : ∀ u ∈ ([Value.slice ra rk rc] : List Value), u.oneCell' = true := by
    intro u hu
    simp at hu
    subst hu
    rfl
  have hby : (M.length + 1) * 24 ≤ 140737488355328 := by omega
  obtain ⟨v', w', hrun, o1, o2, -⟩ := run_append_own (P := Try.prog) w base 47 ty 48 i0 _ 1 24 Try.underlying47 hi hz0 hz1 hz2 rfl (by decide) v M.length vs h2 ⟨gx, 0, none⟩ 1 1 [.slice ra rk rc] rfl hnews hone (by unfold maxLen; omega) hby hbase
  have hold : ∀ u (S : List Rat), QSl w u n S → (S = [] ∨ v.ownBlock = none ∨ u.ownBlock ≠ v.ownBlock) → QSl w' u n S := by
    intro u S hS hn
    cases hv : v.ownBlock with
    | none => rw [hv] at o2; exact hS.none' o2
    | some g =>
      rw [hv] at o2 hn
      exact hS.off' (by rcases hn with hn | hn | hn; exact .inl hn; simp at hn; exact .inr hn) (h3 g hv) o2
  have key : (∀ g, v'.ownBlock = some g → NoLimb w' g) ∧ (v'.ownBlock = v.ownBlock ∨ v'.ownBlock = some w.heap.size) := by
    rcases h2.2 with ⟨rfl, h0⟩ | ⟨g0, cap, cur, rfl, hbg, hg, hnc, hcm, hcs, htake⟩
    · have hvs : vs = [] := List.eq_nil_of_length_eq_zero (by omega)
      subst hvs
      have e := run_append_nil (P := Try.prog) w 47 ty 48 i0 _ Try.underlying47 hi hz0 ⟨gx, 0, none⟩ 1 1 [.slice ra rk rc] (by rw [hz1]; rfl) hnews (by omega) (by omega) (by rw [hz2]; omega)
      rw [e] at hrun
      simp only [Result.ok.injEq] at hrun
      obtain ⟨rfl, rfl⟩ := hrun
      refine ⟨fun g hv => ?_, .inr rfl⟩
      simp only [Value.ownBlock, Option.some.injEq] at hv
      subst hv
      refine noLimb_of (heap_alloc_new w.drew _) ?_
      intro u hu z
      simp only [Array.toList_append, List.mem_append] at hu
      rcases hu with hu | hu
      · simp at hu; subst hu; simp
      · exact zero1_no _ u hu z
    · have hno : ∀ u ∈ cur.toList, ∀ z, u ≠ .int .u32 z := by
        intro u hu z e
        obtain ⟨j, hj, rfl⟩ := List.getElem_of_mem hu
        refine h3 g0 rfl j z ?_
        rw [cell_of_row w g0 j cur _ _ hg, Array.getElem?_eq_getElem (by simpa using hj)]
        simpa using e
      by_cases hroom : M.length + 1 ≤ cap
      · have e := run_append_room (P := Try.prog) w 47 ty 48 i0 Try.underlying47 hi g0 M.length cap cur hg ⟨gx, 0, none⟩ 1 1 [.slice ra rk rc] (by rw [hz1]; rfl) hnews hone hroom (by rw [hz1]; simp; omega)
        rw [e] at hrun
        simp only [Result.ok.injEq] at hrun
        obtain ⟨rfl, rfl⟩ := hrun
        refine ⟨fun g hv => ?_, .inl rfl⟩
        simp only [Value.ownBlock, Option.some.injEq] at hv
        subst hv
        refine noLimb_of (setRow_heap w g0 cur _ _ _ hg) ?_
        intro u hu z
        simp only [List.mem_append] at hu
        rcases hu with (hu | hu) | hu
        · exact hno u (List.mem_of_mem_take hu) z
        · simp at hu; subst hu; simp
        · exact hno u (List.mem_of_mem_drop hu) z
      · have holds : ∀ j u, vs[j]? = some u → w.cell? ((⟨g0, 0, none⟩ : Addr).add j) = some u := h2.cells (g := g0) rfl
        have e := run_append_grow (P := Try.prog) w 47 ty 48 i0 _ Try.underlying47 hi hz0 ⟨g0, 0, none⟩ M.length cap vs (by rw [hz1]; omega) holds ⟨gx, 0, none⟩ 1 1 [.slice ra rk rc] (by rw [hz1]; rfl) hnews (by omega) (by omega) (growslice_fits (by omega) (by rw [hz2]; exact hby))
        rw [e] at hrun
        simp only [Result.ok.injEq] at hrun
        obtain ⟨rfl, rfl⟩ := hrun
        refine ⟨fun g hv => ?_, .inr rfl⟩
        simp only [Value.ownBlock, Option.some.injEq] at hv
        subst hv
        refine noLimb_of (heap_alloc_new w.drew _) ?_
        intro u hu z
        simp only [Array.toList_append, List.mem_append] at hu
        rcases hu with (hu | hu) | hu
        · obtain ⟨j, hj, rfl⟩ := List.getElem_of_mem (show u ∈ vs by simpa using hu)
          obtain ⟨a, k, c, e, -⟩ := (h4 j hj (by omega)).1
          rw [e]
          simp
        · simp at hu; subst hu; simp
        · exact zero1_no _ u hu z
  have hblk : ∀ u (S : List Rat), QSl w u n S → (S = [] ∨ v.ownBlock = none ∨ u.ownBlock ≠ v.ownBlock) → (S = [] ∨ u.ownBlock ≠ v'.ownBlock) := by
    intro u S hS hn
    by_cases hS0 : S = []
    · exact .inl hS0
    rcases hS.blk with h | ⟨b, hb, hlt⟩
    · exact .inl h
    · right
      rcases key.2 with e | e
      · rw [e]
        rcases hn with hn | hn | hn
        · exact absurd hn hS0
        · rw [hn, hb]; simp
        · exact hn
      · rw [e, hb]
        simp
        omega
  refine ⟨v', w', hrun, ⟨vs ++ [.slice ra rk rc], by simp [h1], by simpa using o1, key.1, fun j hj hj' => ?_⟩, o2⟩
  by_cases hl : j < vs.length
  · rw [List.getElem_append_left hl, List.getElem_append_left (by omega)]
    obtain ⟨q1, q2⟩ := h4 j hl (by omega)
    have q3 : M[j] = [] ∨ v.ownBlock = none ∨ vs[j].ownBlock ≠ v.ownBlock := by rcases q2 with q2 | q2; exact .inl q2; exact .inr (.inr q2)
    exact ⟨hold _ _ q1 q3, hblk _ _ q1 q3⟩
  · simp at hj
    have : j = vs.length := by omega
    subst this
    rw [List.getElem_append_right (by omega), List.getElem_append_right (by omega)]
    simp only [Nat.sub_self, h1, List.getElem_cons_zero]
    exact ⟨hold _ _ hr hne, hblk _ _ hr hne⟩
theorem wpList_append_tab {ops : Array Oper} {rest : List Oper} {o : Oper} {ac : Act} {w : World} {Q : Exit → Act → World → Prop}
    (hgd : o.guard = none) (s x : Operand) (hop : o.op = Op.call { callee := Callee.builtin Builtin.append, args := #[s, x], argTypes := #[47, 47] })
    (base n : Nat) (v : Value) (M : List (List Rat)) (gx : Nat) (rv : Value) (R : List Rat) (hs : ac.eval s = v) (hx : ac.eval x = .slice (some ⟨gx, 0, none⟩) 1 1) (hO : OwnTab w base v n M) (hc : w.cell? ⟨gx, 0, none⟩ = some rv) (hr : QSl w rv n R) (hne : R = [] ∨ v.ownBlock = none ∨ rv.ownBlock ≠ v.ownBlock) (k : Nat) (hk2 : k = M.length + 1) (hk : k ≤ 1000) (hbase : base ≤ w.heap.size)
    (hK : ∀ ro rc w', OwnTab w' base (.slice ro k rc) n (M ++ [R]) → w.grownBy w' v.ownBlock → wpList Try.prog ops Q rest (ac.put o.dst (.slice ro k rc)) w') : wpList Try.prog ops Q (o :: rest) ac w := by
  refine wpList_plain hgd fun K hK' => ?_
  obtain ⟨v', w', hrun, r1, r2⟩ := run_append_tab (w := w) o.type base n v M hO gx rv R hc hr hne (by omega) hbase
  obtain ⟨ro, rc, e, -⟩ := r1.qtab
  rw [List.length_append, List.length_singleton, ← hk2] at e
  subst e
  unfold Oper.wp
  simp [execOp, hop, resolve, invoke, builtin, hs, hx, hrun, Result.andThen]
  exact hK' _ _ (hK ro rc w' r1 r2)

end Go.Proofs.Ytkoadlacdgdemaa

namespace Go.Proofs.Ytkoadlacdgdemaa
open Go.RowKit Lm
set_option linter.unusedSimpArgs false
set_option linter.unusedVariables false
set_option maxRecDepth 100000

theorem rawTab1 {W0 : World} {g : Nat} (hg : g = W0.heap.size) {a : Option Addr} {k1 c1 : Nat} {A : List RQ} (e1 : k1 = A.length) (h1 : RawRow W0 a c1 A) : RawTab (W0.alloc (.cells #[.slice a k1 c1] 48)) (some ⟨g, 0, none⟩) 1 [A] := by
  subst hg
  have h := heap_alloc_new W0 (.cells #[.slice a k1 c1] 48)
  have hb : Below W0.heap.size W0 (W0.alloc (.cells #[.slice a k1 c1] 48)) := (Below.refl _ _).alloc (Nat.le_refl _) _
  refine ⟨Nat.le_refl _, by unfold maxLen; omega, .inr ⟨W0.heap.size, 0, rfl, (Array.getElem?_eq_some_iff.1 h).1, fun i hi => ?_⟩⟩
  simp at hi
  subst hi
  exact ⟨_, _, _, by rw [cell_of_row _ _ _ _ _ _ h]; rfl, e1, h1.below hb⟩
theorem qtab1 {W : World} {g n : Nat} {u : Value} {A : List Rat} (h : W.heap[g]? = some (.cells #[u] 48 (0, 0))) (hu : QSl W u n A) : QTab W (some ⟨g, 0, none⟩) 1 n [A] := by
  refine ⟨Nat.le_refl _, by unfold maxLen; omega, .inr ⟨g, 0, rfl, (Array.getElem?_eq_some_iff.1 h).1, fun i hi => ?_⟩⟩
  simp at hi
  subst hi
  obtain ⟨a, k, c, rfl, h1, h2⟩ := hu
  exact ⟨a, k, c, by rw [cell_of_row _ _ _ _ _ _ h]; rfl, a, k, c, rfl, h1, h2⟩
theorem qtab2 {W : World} {g n : Nat} {u v : Value} {A B : List Rat} (h : W.heap[g]? = some (.cells #[u, v] 48 (0, 0))) (hu : QSl W u n A) (hv : QSl W v n B) : QTab W (some ⟨g, 0, none⟩) 2 n [A, B] := by
  refine ⟨Nat.le_refl _, by unfold maxLen; omega, .inr ⟨g, 0, rfl, (Array.getElem?_eq_some_iff.1 h).1, fun i hi => ?_⟩⟩
  obtain ⟨a, k, c, rfl, h1, h2⟩ := hu
  obtain ⟨b, j, d, rfl, h3, h4⟩ := hv
  simp at hi
  rcases (show i = 0 ∨ i = 1 by omega) with rfl | rfl
  · exact ⟨a, k, c, by rw [cell_of_row _ _ _ _ _ _ h]; rfl, a, k, c, rfl, h1, h2⟩
  · exact ⟨b, j, d, by rw [cell_of_row _ _ _ _ _ _ h]; rfl, b, j, d, rfl, h3, h4⟩
theorem grown_below {w W W' : World} {B : Nat} {v : Value} {R : List Rat} {base n : Nat} (h : Below B w W) (hO : OwnArg W base v n R) (hg : W.grownBy W' v.ownBlock) (hB : B ≤ base) (hs : B ≤ W.heap.size) : Below B w W' :=
  h.grown hg hs (fun q e => by have := (hO.lt q e).1; omega)

set_option maxHeartbeats 6400000 in
theorem vecLong_any (w : World) (ao : Option Addr) (ka ca : Nat) (LA : List RQ) (m1 : Bool) (d1 : Option Addr) (e1 : Nat) (t1 : List Nat) (m2 : Bool) (d2 : Option Addr) (e2 : Nat) (t2 : List Nat) (z : Int) (hka : ka = LA.length) (hA : RawRow w ao ca LA) (h1 : SlAt w d1 e1 t1) (h2 : SlAt w d2 e2 t2) (hz0 : 0 ≤ z) (hz1 : z ≤ 255) :
    Calls Try.prog 8 #[.slice ao ka ca, .agg #[.bool m1, .slice d1 t1.length e1, .bool m2, .slice d2 t2.length e2], .int .u8 z] w fun e w' => e = .returned (.bool true) ∧ Below w.heap.size w w' := by
  clear h1 h2
  generalize t1.length = T1 at *
  generalize t2.length = T2 at *
  obtain ⟨j, rfl⟩ : ∃ j : Nat, z = j := ⟨z.toNat, by omega⟩
  have fa : ka ≤ 9223372036854775807 := by have := hA.lenm; omega
  have HLA := hid hka
  have HA := hid hA
  obtain ⟨q, hq⟩ : ∃ q : Nat, q = 1 + j % 5 := ⟨_, rfl⟩
  have hqi : (1 : Int) + (j : Int) % 5 = (q : Int) := by omega
  have hq1 : 1 ≤ q ∧ q ≤ 5 := by omega
  obtain ⟨hq1, hq2⟩ := hq1
  clear hA hka hq
  go_enter Try.func8, Try.ntmps8
  go_wp2_with fail
  have hW0 : Below w.heap.size w (w.alloc (.cells #[.bool m1, .slice d1 T1 e1, .bool m2, .slice d2 T2 e2] 37)) := (by repeat (first | exact Below.refl _ _ | refine Below.alloc ?_ ?_ _ | refine Below.setCell ?_ ?_ _ | refine Below.drew ?_ | refine below_drewN ?_ _ | (· simp) | omega | (· simp; omega) | exact Below.size (by assumption) | assumption | refine below_call ?_ (by assumption) ?_))
  have hW1 : Below w.heap.size w ((w.alloc (.cells #[.bool m1, .slice d1 T1 e1, .bool m2, .slice d2 T2 e2] 37)).alloc (.cells #[.slice ao ka ca] 48)) := (by repeat (first | exact Below.refl _ _ | refine Below.alloc ?_ ?_ _ | refine Below.setCell ?_ ?_ _ | refine Below.drew ?_ | refine below_drewN ?_ _ | (· simp) | omega | (· simp; omega) | exact Below.size (by assumption) | assumption | refine below_call ?_ (by assumption) ?_))
  have bT : Box4 ((w.alloc (.cells #[.bool m1, .slice d1 T1 e1, .bool m2, .slice d2 T2 e2] 37)).alloc (.cells #[.slice ao ka ca] 48)) w.heap.size (.bool m1) (.slice d1 T1 e1) (.bool m2) (.slice d2 T2 e2) := (Box4.new _ _ _ _ _ _ rfl).alloc _
  have hTab := rawTab1 (W0 := w.alloc (.cells #[.bool m1, .slice d1 T1 e1, .bool m2, .slice d2 T2 e2] 37)) (g := w.heap.size + 1) (by simp) HLA.out (HA.out.below hW0)
  generalize (w.alloc (.cells #[.bool m1, .slice d1 T1 e1, .bool m2, .slice d2 T2 e2] 37)).alloc (.cells #[.slice ao ka ca] 48) = W1 at *
  refine (great4_any _ _ _ _ [LA] rfl hTab).mono ?_
  rintro e W2 ⟨b, rfl, hsm, rfl⟩
  clear hTab hW0
  cases b
  · have HS := hid (hsm rfl)
    have hks : ka ≤ 199 := by
      have := HS.out.1
      have e1 := HLA.out
      simp [rowSum] at this
      omega
    have hAq : QSl W2 (.slice ao ka ca) 6 (LA.map RQ.r) := ⟨_, _, _, rfl, by rw [List.length_map]; exact HLA.out, (HA.out.below hW1).qat (HS.out.2 LA (by simp))⟩
    have HNA : Hid ((LA.map RQ.r).length = ka) := hid (by rw [List.length_map]; exact HLA.out.symm)
    generalize LA.map RQ.r = A at *
    clear hsm HS HA HLA
    have hA3 : Below W2.heap.size W2 (W2.alloc (.cells #[] 37)) := (by repeat (first | exact Below.refl _ _ | refine Below.alloc ?_ ?_ _ | refine Below.setCell ?_ ?_ _ | refine Below.drew ?_ | refine below_drewN ?_ _ | (· simp) | omega | (· simp; omega) | exact Below.size (by assumption) | assumption | refine below_call ?_ (by assumption) ?_))
    have hO3 : OwnArg (W2.alloc (.cells #[] 37)) W2.heap.size (.slice (some ⟨W2.heap.size, 0, none⟩) 0 0) 6 [] := OwnArg.lit (Nat.le_refl _) rfl
    have hS3 : ArgSrc (W2.alloc (.cells #[] 37)) (.slice ao ka ca) 6 A := by
      have h := (qsl_at (hAq.below hA3)).2.src ka (by rw [HNA.out]; exact Nat.le_refl _)
      rw [List.take_of_length_le (Nat.le_of_eq HNA.out)] at h
      exact h
    have HO3 := hid hO3
    have HS3 := hid hS3
    have HAq := hid hAq
    clear hO3 hS3 hAq
    go_wp2_with (at_builtin; first
      | (refine wpList_append_arg rfl _ _ rfl W2.heap.size 6 _ _ [] A rfl rfl HO3.out HS3.out ka (by rw [HNA.out]; simp) (by omega) hA3.size ?_; intro ro4 rc4 w4 hO4 hg4; have hA4 := grown_below hA3 HO3.out hg4 (Nat.le_refl _) hA3.size; have HO4 := hid hO4; clear hO4 hg4)
      | (go_must (refine wpList_append_argz rfl _ _ rfl W2.heap.size 6 _ A q rfl rfl HO4.out (by omega) (ka + q) (by rw [HNA.out]) (by omega) hA4.size ?_); intro ro5 rc5 w5 hO5 hg5; have hA5 := grown_below hA4 HO4.out hg5 (Nat.le_refl _) hA4.size; have HO5 := hid hO5; clear hO5 hg5))
    have hBq : QSl w5 (.slice ro5 (ka + q) rc5) 6 (A ++ List.replicate q 0) := by
      obtain ⟨_, _, _, h, -⟩ := HO5.out.qsl
      exact h
    have HAq5 := hid (HAq.out.below hA5)
    have HBq := hid hBq
    have HWB : Hid (wide [A ++ List.replicate q 0] (ka : Int) = false) := hid (by
      simp [wide, HNA.out]
      omega)
    have HWAB : Hid (wide [A, A ++ List.replicate q 0] (ka : Int) = false) := hid (by
      simp [wide, HNA.out]
      omega)
    generalize A ++ List.replicate q 0 = B at *
    generalize hkb : ka + q = kb at *
    have hab : ka ≠ kb := by omega
    have hba : kb ≠ ka := by omega
    have fb : kb ≤ 9223372036854775807 := by omega
    have hW5 := below_call hW1 hA5 hW1.size
    replace bT := bT.keep hA5
    clear HO3 HS3 HAq HO4 hA4 HO5 hA5 hA3 hBq hkb
    go_wp2_with fail
    refine (vdot_no _ _ _ _ _ _ _ hab fa fb).mono ?_
    rintro e W6 ⟨rfl, hb6⟩
    have hW6 := (below_call hW5 hb6 hW5.size).alloc (below_call hW5 hb6 hW5.size).size (.cells #[.bool false, .slice none 0 0, .bool false, .slice none 0 0] 37)
    have hs6 := hb6.alloc hb6.size (.cells #[.bool false, .slice none 0 0, .bool false, .slice none 0 0] 37)
    replace bT := (bT.keep hb6).alloc (.cells #[.bool false, .slice none 0 0, .bool false, .slice none 0 0] 37)
    have bD : Box4 (W6.alloc (.cells #[.bool false, .slice none 0 0, .bool false, .slice none 0 0] 37)) W6.heap.size (.bool false) (.slice none 0 0) (.bool false) (.slice none 0 0) := Box4.new _ _ _ _ _ _ rfl
    replace HAq5 := hid (HAq5.out.below hs6)
    replace HBq := hid (HBq.out.below hs6)
    clear hb6 hW5 hs6
    (try clear x0 x1 x2 x3 lT); obtain ⟨x0, x1, x2, x3⟩ := bT.c; have lT := bT.lt
    go_wp2_with fail
    refine (plus_no _ _ _ _ _ _ _ _ _ _ _ _ _ _ _ hba fb fa).mono ?_
    rintro e W7 ⟨rfl, hb7⟩
    have hW7 := below_call hW6 hb7 hW6.size
    have hs7 := hb7.alloc hb7.size (.cells #[.slice ao ka ca, .slice ro5 kb rc5] 48)
    have HT7 := hid (qtab2 (heap_alloc_new W7 (.cells #[.slice ao ka ca, .slice ro5 kb rc5] 48)) (HAq5.out.below hs7) (HBq.out.below hs7))
    have hW7a := hW7.alloc hW7.size (.cells #[.slice ao ka ca, .slice ro5 kb rc5] 48)
    replace bT := (bT.keep hb7).alloc (.cells #[.slice ao ka ca, .slice ro5 kb rc5] 48)
    replace bD := (bD.keep hb7).alloc (.cells #[.slice ao ka ca, .slice ro5 kb rc5] 48)
    replace HAq5 := hid (HAq5.out.below hs7)
    replace HBq := hid (HBq.out.below hs7)
    clear hb7 hW6 hs7 hW7 x0 x1 x2 x3 lT
    go_wp2_with fail
    refine (Times_no _ _ _ _ _ _ _ 6 [A, B] rfl HT7.out fa HWAB.out).mono ?_
    rintro e W8 ⟨rfl, hb8⟩
    have hW8 := below_call hW7a hb8 hW7a.size
    replace bT := bT.keep hb8
    replace bD := bD.keep hb8
    replace HAq5 := hid (HAq5.out.below hb8)
    replace HBq := hid (HBq.out.below hb8)
    clear hb8 hW7a HT7
    have hs8 : Below W8.heap.size W8 ((W8.alloc (.cells #[.bool m1, .slice d1 T1 e1, .bool m2, .slice d2 T2 e2] 37)).alloc (.cells #[.slice ro5 kb rc5] 48)) := (by repeat (first | exact Below.refl _ _ | refine Below.alloc ?_ ?_ _ | refine Below.setCell ?_ ?_ _ | refine Below.drew ?_ | refine below_drewN ?_ _ | (· simp) | omega | (· simp; omega) | exact Below.size (by assumption) | assumption | refine below_call ?_ (by assumption) ?_))
    have HT8 : Hid (QTab ((W8.alloc (.cells #[.bool m1, .slice d1 T1 e1, .bool m2, .slice d2 T2 e2] 37)).alloc (.cells #[.slice ro5 kb rc5] 48)) (some ⟨W8.heap.size + 1, 0, none⟩) 1 6 [B]) := hid (by
      rw [← asize W8 (.cells #[.bool m1, .slice d1 T1 e1, .bool m2, .slice d2 T2 e2] 37)]
      exact qtab1 (heap_alloc_new (W8.alloc (.cells #[.bool m1, .slice d1 T1 e1, .bool m2, .slice d2 T2 e2] 37)) (.cells #[.slice ro5 kb rc5] 48)) (HBq.out.below hs8))
    have hW8a := below_call hW8 hs8 hW8.size
    (try clear x0 x1 x2 x3 lT); obtain ⟨x0, x1, x2, x3⟩ := bT.c; have lT := bT.lt
    go_wp2_with fail
    refine (Left_no _ _ _ _ _ _ _ 6 _ [B] rfl (by omega) HT8.out (.inr (.inr (.inr HWB.out)))).mono ?_
    rintro e W9 ⟨rfl, hb9⟩
    have hs9 := below_call hs8 hb9 hs8.size
    have hW9 := below_call hW8 hs9 hW8.size
    replace bT := bT.keep hs9
    replace bD := bD.keep hs9
    replace HAq5 := hid (HAq5.out.below hs9)
    clear hb9 hW8 hs8 hW8a HT8 hs9
    have hs9 : Below W9.heap.size W9 ((W9.alloc (.cells #[.bool m1, .slice d1 T1 e1, .bool m2, .slice d2 T2 e2] 37)).alloc (.cells #[.slice ao ka ca, .slice ao ka ca] 48)) := (by repeat (first | exact Below.refl _ _ | refine Below.alloc ?_ ?_ _ | refine Below.setCell ?_ ?_ _ | refine Below.drew ?_ | refine below_drewN ?_ _ | (· simp) | omega | (· simp; omega) | exact Below.size (by assumption) | assumption | refine below_call ?_ (by assumption) ?_))
    have HT9 : Hid (QTab ((W9.alloc (.cells #[.bool m1, .slice d1 T1 e1, .bool m2, .slice d2 T2 e2] 37)).alloc (.cells #[.slice ao ka ca, .slice ao ka ca] 48)) (some ⟨W9.heap.size + 1, 0, none⟩) 2 6 [A, A]) := hid (by
      rw [← asize W9 (.cells #[.bool m1, .slice d1 T1 e1, .bool m2, .slice d2 T2 e2] 37)]
      exact qtab2 (heap_alloc_new (W9.alloc (.cells #[.bool m1, .slice d1 T1 e1, .bool m2, .slice d2 T2 e2] 37)) (.cells #[.slice ao ka ca, .slice ao ka ca] 48)) (HAq5.out.below hs9) (HAq5.out.below hs9))
    (try clear x0 x1 x2 x3 lT); obtain ⟨x0, x1, x2, x3⟩ := bT.c; have lT := bT.lt
    go_wp2_with fail
    refine (Left_no _ _ _ _ _ _ _ 6 _ [A, A] rfl (by omega) HT9.out (.inr (.inr (.inl (by simp))))).mono ?_
    rintro e WA ⟨rfl, hbA⟩
    have hsA := below_call hs9 hbA hs9.size
    have hWA := below_call hW9 hsA hW9.size
    replace bD := bD.keep hsA
    clear x0 x1 x2 x3 lT hbA hs9 hW9 HT9 hsA bT HAq5 HBq
    go_wp2_with fail
    refine (ve_num (VE.none _) _).mono ?_
    rintro e WB ⟨rfl, -, hbB⟩
    have hWB := below_call hWA hbB hWA.size
    obtain ⟨y0, y1, y2, y3⟩ := (bD.keep hbB).c
    have lD := (bD.keep hbB).lt
    clear hbB hWA bD
    go_wp2_with fail
    clear y0 y1 y2 y3 lD
    refine (ve_num (VE.none _) _).mono ?_
    rintro e WC ⟨rfl, -, hbWC⟩
    have hWC := below_call hWB hbWC hWB.size
    clear hbWC hWB
    go_wp2_with fail
    refine (ve_num (VE.none _) _).mono ?_
    rintro e WD ⟨rfl, -, hbWD⟩
    have hWD := below_call hWC hbWD hWC.size
    clear hbWD hWC
    go_wp2_with fail
    refine (ve_num (VE.none _) _).mono ?_
    rintro e WE ⟨rfl, -, hbWE⟩
    have hWE := below_call hWD hbWE hWD.size
    clear hbWE hWD
    go_wp2_with fail
    refine (ve_num (VE.none _) _).mono ?_
    rintro e WF ⟨rfl, -, hbWF⟩
    have hWF := below_call hWE hbWF hWE.size
    clear hbWF hWE
    go_wp2_with fail
    refine (awake4_any _).mono ?_
    rintro e WG ⟨rfl, hbG⟩
    have HR := hid (below_call hWF hbG hWF.size)
    clear hbG hWF
    go_wp2
    go_ret
    exact ⟨rfl, HR.out⟩
  · have HB3 := hid hW1
    clear hW1 HA bT hsm
    go_wp2_with fail
    refine (awake4_any _).mono ?_
    rintro e W4 ⟨rfl, hb⟩
    have HR := hid (below_call HB3.out hb HB3.out.size)
    go_wp2
    go_ret
    exact ⟨rfl, HR.out⟩

end Go.Proofs.Ytkoadlacdgdemaa
