/-
  Rows of quotients that grow by rows that came in, and by noughts; tables that grow.
  The law VecLong.
  Walks: rows cut to a length.
  The law VecSides.
  Whether two rows are one; a row of noughts and one 1; the law VecUnits.
-/
import Derived.Test.YtmnlggmdomcajaaGreatVB
import Derived.Test.YtmnlggmdomcajaaGreatVC
import Derived.Lib.AppendZerosOnto
import Derived.Deep.Upon

namespace Go.Proofs.YtmnlggmdomcajaaGreat
open Go.RowKit Lm
set_option linter.unusedSimpArgs false
set_option linter.unusedVariables false
set_option maxRecDepth 100000

def zeroQ : QV := ⟨false, none, 0, 0, false, none, 0, 0⟩
theorem zeros_flat (k : Nat) : (Builtin.zeroCells (Value.agg #[.bool false, .slice none 0 0, .bool false, .slice none 0 0]).cells k).toList = flat (List.replicate k zeroQ) := by
  have hcells : (Value.agg #[.bool false, .slice none 0 0, .bool false, .slice none 0 0]).cells = #[.bool false, .slice none 0 0, .bool false, .slice none 0 0] := rfl
  rw [hcells]
  have hlen := flat_len (List.replicate k zeroQ)
  rw [List.length_replicate] at hlen
  unfold Builtin.zeroCells
  refine List.ext_getElem (by simp [hlen]) fun j h1 h2 => ?_
  have hj : j < k * 4 := by omega
  have hq : j / 4 < (List.replicate k zeroQ).length := by simp; omega
  obtain ⟨f0, f1, f2, f3⟩ := flat_get (List.replicate k zeroQ) (j / 4) hq
  rw [List.getElem_replicate] at f0 f1 f2 f3
  have key : ∀ u, (flat (List.replicate k zeroQ))[j]? = some u → u = (flat (List.replicate k zeroQ))[j] := fun u hu => by
    rw [List.getElem?_eq_getElem h2] at hu
    simpa using hu.symm
  simp only [Array.toList_map, List.getElem_map, Array.toList_range, List.getElem_range]
  have h4 : j % 4 = 0 ∨ j % 4 = 1 ∨ j % 4 = 2 ∨ j % 4 = 3 := by omega
  rcases h4 with h4 | h4 | h4 | h4
  · rw [show j / 4 * 4 = j by omega] at f0
    rw [← key _ f0]
    show #[Value.bool false, Value.slice none 0 0, Value.bool false, Value.slice none 0 0][j % 4]! = _
    rw [h4]; rfl
  · rw [show j / 4 * 4 + 1 = j by omega] at f1
    rw [← key _ f1]
    show #[Value.bool false, Value.slice none 0 0, Value.bool false, Value.slice none 0 0][j % 4]! = _
    rw [h4]; rfl
  · rw [show j / 4 * 4 + 2 = j by omega] at f2
    rw [← key _ f2]
    show #[Value.bool false, Value.slice none 0 0, Value.bool false, Value.slice none 0 0][j % 4]! = _
    rw [h4]; rfl
  · rw [show j / 4 * 4 + 3 = j by omega] at f3
    rw [← key _ f3]
    show #[Value.bool false, Value.slice none 0 0, Value.bool false, Value.slice none 0 0][j % 4]! = _
    rw [h4]; rfl

theorem ownQ_new {w : World} {base : Nat} (hb : base ≤ w.heap.size) (M : List QV) (n cap : Nat) (hn : n = M.length) (hc : n ≤ cap) (hm : cap ≤ maxLen) (cur : Array Value) (hcur : cur.toList = flat M ++ (Builtin.zeroCells (Value.agg #[.bool false, .slice none 0 0, .bool false, .slice none 0 0]).cells (cap - n)).toList) : OwnQ (w.alloc (.cells cur 26)) base (.slice (some ⟨w.heap.size, 0, none⟩) n cap) M := by
  subst hn
  refine ⟨⟨flat_len M, .inr ⟨w.heap.size, cap, cur, rfl, hb, heap_alloc_new w _, hc, hm, ?_, ?_⟩⟩, fun g hg => ?_⟩
  · rw [← Array.length_toList, hcur, List.length_append, zeros_flat, flat_len, flat_len, List.length_replicate, ← Nat.add_mul]
    congr 1
    omega
  · rw [hcur, ← flat_len M]
    exact List.take_left
  · simp only [Value.ownBlock, Option.some.injEq] at hg
    subst hg
    refine noLimb_of (heap_alloc_new w _) ?_
    intro u hu z
    rw [hcur, zeros_flat, List.mem_append] at hu
    rcases hu with hu | hu
    · exact flat_no M u hu z
    · exact flat_no _ u hu z

theorem run_append_room_zeros {P : Program} (w : World) (t tn ty e : TypeId) (i : TypeInfo) (z : Value) (kq kn : IntKind) (ht : P.underlying t = some (.slice e)) (htn : P.underlying tn = some (.int kn)) (hi : P.info? e = some i) (hz : i.zero = some z)
    (g sLen sCap : Nat) (cur : Array Value) (hg : w.heap[g]? = some (.cells cur e (0, 0))) (k : Nat) (h0 : 0 < k) (hs : 0 < i.size) (h63 : (k : Int) ≤ 9223372036854775807) (h48 : k * i.bytes ≤ 281474976710656) (h1 : ∀ u ∈ (Builtin.zeroCells z.cells k).toList, u.oneCell' = true)
    (hroom : sLen + k ≤ sCap) (hfit : sLen * i.size + (Builtin.zeroCells z.cells k).toList.length ≤ cur.size) :
    (Builtin.append_ #[t, tn] ty #[.slice (some ⟨g, 0, none⟩) sLen sCap, .int kq k]).run P w =
      .ok (.slice (some ⟨g, 0, none⟩) (sLen + k) sCap) (w.setRow g (cur.toList.take (sLen * i.size) ++ (Builtin.zeroCells z.cells k).toList ++ cur.toList.drop (sLen * i.size + (Builtin.zeroCells z.cells k).toList.length)).toArray) := by
  have hk : k ≠ 0 := by omega
  have hw : IntKind.i64.wrap (k : Int) = k := by rw [IntKind.wrap_i64]; omega
  have h48i : ¬ (281474976710656 < (k : Int) * (i.bytes : Int)) := by
    rw [← Int.natCast_mul]
    omega
  have hneg : ¬ ((k : Int) < 0) := by omega
  have hns : ¬ (k * i.size = 0) := Nat.mul_ne_zero hk (by omega)
  have hst := run_storeCells_at P g (sLen * i.size) e (Builtin.zeroCells z.cells k).toList 0 cur w hg (by simpa using hfit) h1
  simp only [Nat.add_zero] at hst
  simp [Builtin.append_, run_underlying ht, run_underlying htn, sizeOf, typeInfo, zeroValue, hi, hz, asInt, asIntOf, hw, hneg, hns, h48i, hroom, Addr.add_lit, hst]

theorem ownQ_room {w : World} {base g n cap k : Nat} {cur : Array Value} {L M : List QV} (hL : n = L.length) (hk : k = M.length) (hbg : base ≤ g) (hg : w.heap[g]? = some (.cells cur 26 (0, 0))) (hroom : n + k ≤ cap) (hcm : cap ≤ maxLen) (hcs : cur.size = cap * 4) (htake : cur.toList.take (n * 4) = flat L) (hno : NoLimb w g) :
    OwnQ (w.setRow g (cur.toList.take (n * 4) ++ flat M ++ cur.toList.drop (n * 4 + (flat M).length)).toArray) base (.slice (some ⟨g, 0, none⟩) (n + k) cap) (L ++ M) := by
  have hlM := flat_len M
  have hlen : (flat L ++ flat M).length = (n + k) * 4 := by rw [List.length_append, flat_len, flat_len]; omega
  have hno2 : ∀ u ∈ cur.toList, ∀ z, u ≠ .int .u32 z := by
    intro u hu z e
    obtain ⟨j, hj, rfl⟩ := List.getElem_of_mem hu
    refine hno j z ?_
    rw [cell_of_row w g j cur _ _ hg, Array.getElem?_eq_getElem (by simpa using hj)]
    simpa using e
  refine ⟨⟨by rw [flat_len], .inr ⟨g, cap, _, by rw [List.length_append, ← hL, ← hk], hbg, setRow_heap w g cur _ _ _ hg, by rw [List.length_append, ← hL, ← hk]; exact hroom, hcm, ?_, ?_⟩⟩, fun g' hg' => ?_⟩
  · simp only [List.size_toArray, List.length_append, List.length_take, List.length_drop, Array.length_toList]
    omega
  · rw [htake, List.length_append, ← hL, ← hk, ← hlen, flat_app]
    exact List.take_left
  · simp only [Value.ownBlock, Option.some.injEq] at hg'
    subst hg'
    refine noLimb_of (setRow_heap w g cur _ _ _ hg) ?_
    intro u hu z
    simp only [List.mem_append] at hu
    rcases hu with (hu | hu) | hu
    · exact hno2 u (List.mem_of_mem_take hu) z
    · exact flat_no M u hu z
    · exact hno2 u (List.mem_of_mem_drop hu) z

/-- So many noughts more. -/
theorem run_append_z {w : World} (ty : TypeId) (base : Nat) (v : Value) (L : List QV) (hown : OwnQ w base v L) (k : Nat) (h0 : 0 < k) (hk : L.length + k ≤ 1000000) (hbase : base ≤ w.heap.size) :
    ∃ v' w', (Builtin.append_ #[41, 3] ty #[v, .int .i64 (k : Int)]).run Tryz.prog w = .ok v' w' ∧ OwnQ w' base v' (L ++ List.replicate k zeroQ) ∧ w.grownBy w' v.ownBlock := by
  obtain ⟨i0, hi, hz0, hz1, hz2⟩ := info_parts Tryz.infoRat
  have hlz : (Builtin.zeroCells (Value.agg #[.bool false, .slice none 0 0, .bool false, .slice none 0 0]).cells k).toList.length = k * 4 := by rw [zeros_flat, flat_len, List.length_replicate]
  rcases hown.1.2 with ⟨rfl, hl0⟩ | ⟨g0, cap, cur, rfl, hbg, hg, hnc, hcm, hcs, htake⟩
  · obtain rfl : L = [] := List.eq_nil_of_length_eq_zero hl0
    have e := Go.Lib.run_append_nil_zeros (P := Tryz.prog) w 41 3 ty 26 i0 _ .i64 .i64 Tryz.underlying41 Tryz.underlying3 hi hz0 k h0 (by omega) (by omega) (by rw [hz2]; simp at hk; omega)
    refine ⟨_, _, e, ?_, ⟨rfl, rfl, rfl, by simp, fun q hq _ => heap_alloc_old w.drew _ hq⟩⟩
    refine ownQ_new (w := w.drew) hbase (List.replicate k zeroQ) k _ (by simp) (grownCap_ge w k 0 _) (grownCap_le_maxLen w k 0 _ (by unfold maxLen; simp at hk; omega)) _ ?_
    rw [Array.toList_append, zeros_flat]
  · by_cases hroom : L.length + k ≤ cap
    · have e := run_append_room_zeros (P := Tryz.prog) w 41 3 ty 26 i0 _ .i64 .i64 Tryz.underlying41 Tryz.underlying3 hi hz0 g0 L.length cap cur hg k h0 (by omega) (by omega) (by rw [hz2]; omega) (by rw [zeros_flat]; exact flat_one _) hroom (by rw [hlz, hz1, hcs, ← Nat.add_mul]; exact Nat.mul_le_mul_right _ hroom)
      refine ⟨_, _, e, ?_, ⟨rfl, rfl, rfl, by simp, fun q _ hq => setRow_other w g0 q _ (fun e => hq (by simp [Value.ownBlock, e]))⟩⟩
      rw [zeros_flat, hz1]
      exact ownQ_room rfl (by simp) hbg hg hroom hcm hcs htake (hown.2 g0 rfl)
    · have holds : ∀ j u, (flat L)[j]? = some u → w.drew.cell? ((⟨g0, 0, none⟩ : Addr).add j) = some u := hown.1.cells (g := g0) rfl
      have e := Go.Lib.run_append_grow_zeros (P := Tryz.prog) w 41 3 ty 26 i0 _ .i64 .i64 Tryz.underlying41 Tryz.underlying3 hi hz0 (some ⟨g0, 0, none⟩) L.length cap (flat L) (run_firstCells_some w.drew i0.size L.length ⟨g0, 0, none⟩ L.length cap (flat L) (by rw [hz1]; exact flat_len L) holds) k h0 (by omega) (by omega) (by omega) (by rw [hz2]; omega) (growslice_fits (by omega) (by rw [hz2]; omega))
      refine ⟨_, _, e, ?_, ⟨rfl, rfl, rfl, by simp, fun q hq _ => heap_alloc_old w.drew _ hq⟩⟩
      refine ownQ_new (w := w.drew) hbase (L ++ List.replicate k zeroQ) _ _ (by simp) (grownCap_ge w _ cap _) (grownCap_le_maxLen w _ cap _ (by unfold maxLen; omega)) _ ?_
      rw [Array.toList_append, Array.toList_append, zeros_flat, flat_app]

/-- What a row yields when it is appended. -/
def SrcQ (w : World) (x : Value) (M : List QV) : Prop := ∃ ao c, x = .slice ao M.length c ∧ (M = [] ∨ ∃ a, ao = some a ∧ ∀ j u, (flat M)[j]? = some u → w.cell? (a.add j) = some u)
theorem run_append_s {w : World} (ty : TypeId) (base : Nat) (v x : Value) (L M : List QV) (hown : OwnQ w base v L) (hs : SrcQ w x M) (hk : L.length + M.length ≤ 1000000) (hbase : base ≤ w.heap.size) :
    ∃ v' w', (Builtin.append_ #[41, 41] ty #[v, x]).run Tryz.prog w = .ok v' w' ∧ OwnQ w' base v' (L ++ M) ∧ w.grownBy w' v.ownBlock := by
  obtain ⟨ao, c, rfl, h⟩ := hs
  rcases h with rfl | ⟨a, rfl, hc⟩
  · obtain ⟨i0, hi, hz0, hz1, hz2⟩ := info_parts Tryz.infoRat
    obtain ⟨vo, vc, rfl, hle, -⟩ := hown.len
    have hS : Src Tryz.prog i0.size 41 (.slice ao ([] : List QV).length c) 0 [] w := by
      cases ao with
      | none => exact Src.ofNil w Tryz.underlying41 c
      | some a => exact Src.ofSlice w Tryz.underlying41 a 0 c [] (by simp) (by simp) (by simp)
    have e := Go.run_append_nothing (P := Tryz.prog) w 41 41 ty 26 i0 Tryz.underlying41 hi vo L.length vc hle _ hS
    exact ⟨_, _, e, by rw [List.append_nil]; exact hown, ⟨rfl, rfl, rfl, Nat.le_refl _, fun _ _ _ => rfl⟩⟩
  · exact run_append_q ty base v L hown a c M hc hk hbase

/-- A row of one's own, whose quotients may be handed in. -/
def OwnArg (w : World) (base : Nat) (v : Value) (n : Nat) (R : List Rat) : Prop := ∃ L : List QV, L.length = R.length ∧ OwnQ w base v L ∧ ∀ j (h : j < L.length) (h' : j < R.length), RArg w L[j].v n R[j]
/-- .. and one that is appended. -/
def ArgSrc (w : World) (x : Value) (n : Nat) (R : List Rat) : Prop := ∃ L : List QV, L.length = R.length ∧ SrcQ w x L ∧ ∀ j (h : j < L.length) (h' : j < R.length), RArg w L[j].v n R[j]
theorem OwnArg.below {w w' : World} {base n : Nat} {v : Value} {R : List Rat} (h : OwnArg w base v n R) (hb : Below w.heap.size w w') : OwnArg w' base v n R := by
  obtain ⟨L, h1, h2, h3⟩ := h
  exact ⟨L, h1, h2.below hb, fun j hj hj' => (h3 j hj hj').below hb⟩
theorem OwnArg.qsl {w : World} {base n : Nat} {v : Value} {R : List Rat} (h : OwnArg w base v n R) : ∃ ao cap, v = .slice ao R.length cap ∧ QSl w v n R ∧ R.length ≤ cap ∧ cap ≤ maxLen := by
  obtain ⟨L, h1, h2, h3⟩ := h
  obtain ⟨ao, cap, rfl, q1, q2, q3⟩ := h2.len
  refine ⟨ao, cap, by rw [h1], ⟨ao, _, cap, rfl, h1, by omega, q2, ?_⟩, by omega, q2⟩
  rcases q3 with q3 | ⟨g, rfl, _, hg, hc⟩
  · exact .inl (by omega)
  · refine .inr ⟨g, 0, rfl, hg, fun i hi => ?_⟩
    rw [Nat.zero_add]
    obtain ⟨p1, p2, p3, p4⟩ := hc i (by omega)
    exact ⟨_, _, _, _, _, _, _, _, p1, p2, p3, p4, h3 i (by omega) hi⟩
theorem OwnArg.lt {w : World} {base n : Nat} {v : Value} {R : List Rat} (h : OwnArg w base v n R) : ∀ g, v.ownBlock = some g → base ≤ g ∧ g < w.heap.size ∧ NoLimb w g := by
  obtain ⟨L, h1, h2, h3⟩ := h
  exact fun g hg => ⟨(h2.1.lt g hg).1, (h2.1.lt g hg).2, h2.2 g hg⟩
theorem OwnArg.nil (w : World) (base n : Nat) : OwnArg w base (.slice none 0 0) n [] := ⟨[], rfl, ownQ_nil _ _, fun j h => by simp at h⟩
/-- An empty literal. -/
theorem OwnArg.lit {w : World} {base n g : Nat} (hb : base ≤ w.heap.size) (hg : g = w.heap.size) : OwnArg (w.alloc (.cells #[] 26)) base (.slice (some ⟨g, 0, none⟩) 0 0) n [] := by
  subst hg
  exact ⟨[], rfl, ownQ_new hb [] 0 0 rfl (Nat.le_refl _) (by unfold maxLen; omega) #[] (by simp [flat, Builtin.zeroCells]), fun j h => by simp at h⟩
theorem rarg_move {w w' : World} {base : Nat} {v : Value} {L : List QV} (h2 : OwnQ w base v L) (hg : w.grownBy w' v.ownBlock) {u : Value} {n : Nat} {x : Rat} (hx : RArg w u n x) : RArg w' u n x := by
  cases hv : v.ownBlock with
  | none =>
    rw [hv] at hg
    exact hx.offL (g := w.heap.size) (fun j z e => by have := World.block_lt_of_cell? w _ e; simp at this) ⟨hg.os, hg.tape, hg.output, hg.size, fun k hk _ => hg.block k hk (by simp)⟩
  | some g =>
    rw [hv] at hg
    exact hx.offL (h2.2 g hv) hg
theorem run_append_arg {w : World} (ty : TypeId) (base n : Nat) (v x : Value) (R S : List Rat) (hO : OwnArg w base v n R) (hS : ArgSrc w x n S) (hk : R.length + S.length ≤ 1000000) (hbase : base ≤ w.heap.size) :
    ∃ v' w', (Builtin.append_ #[41, 41] ty #[v, x]).run Tryz.prog w = .ok v' w' ∧ OwnArg w' base v' n (R ++ S) ∧ w.grownBy w' v.ownBlock := by
  obtain ⟨L, h1, h2, h3⟩ := hO
  obtain ⟨M, m1, m2, m3⟩ := hS
  obtain ⟨v', w', hr, hq, hg⟩ := run_append_s ty base v x L M h2 m2 (by omega) hbase
  refine ⟨v', w', hr, ⟨L ++ M, by simp [h1, m1], hq, fun j hj hj' => ?_⟩, hg⟩
  by_cases hl : j < L.length
  · rw [List.getElem_append_left hl, List.getElem_append_left (by omega)]
    exact rarg_move h2 hg (h3 j hl (by omega))
  · simp at hj hj'
    rw [List.getElem_append_right (by omega), List.getElem_append_right (by omega)]
    have := rarg_move h2 hg (m3 (j - L.length) (by omega) (by omega))
    simpa [h1] using this
theorem run_append_argz {w : World} (ty : TypeId) (base n : Nat) (v : Value) (R : List Rat) (hO : OwnArg w base v n R) (k : Nat) (h0 : 0 < k) (hk : R.length + k ≤ 1000000) (hbase : base ≤ w.heap.size) :
    ∃ v' w', (Builtin.append_ #[41, 3] ty #[v, .int .i64 (k : Int)]).run Tryz.prog w = .ok v' w' ∧ OwnArg w' base v' n (R ++ List.replicate k 0) ∧ w.grownBy w' v.ownBlock := by
  obtain ⟨L, h1, h2, h3⟩ := hO
  obtain ⟨v', w', hr, hq, hg⟩ := run_append_z ty base v L h2 k h0 (by omega) hbase
  refine ⟨v', w', hr, ⟨_, by simp [h1], hq, fun j hj hj' => ?_⟩, hg⟩
  by_cases hl : j < L.length
  · rw [List.getElem_append_left hl, List.getElem_append_left (by omega)]
    exact rarg_move h2 hg (h3 j hl (by omega))
  · simp at hj hj'
    rw [List.getElem_append_right (by omega), List.getElem_append_right (by omega), List.getElem_replicate, List.getElem_replicate]
    exact (rarg_zero w').mono (Nat.zero_le _)
theorem exL {α : Type} {P : Nat → α → Prop} : ∀ n : Nat, (∀ i, i < n → ∃ x, P i x) → ∃ L : List α, L.length = n ∧ ∀ i (h : i < L.length), P i L[i]
  | 0, _ => ⟨[], rfl, fun i h => by simp at h⟩
  | n + 1, h => by
    obtain ⟨L, h1, h2⟩ := exL n (fun i hi => h i (by omega))
    obtain ⟨x, hx⟩ := h n (by omega)
    refine ⟨L ++ [x], by simp [h1], fun i hi => ?_⟩
    by_cases hl : i < L.length
    · rw [List.getElem_append_left hl]; exact h2 i hl
    · simp at hi
      have : i = n := by omega
      subst this
      rw [List.getElem_append_right (by omega)]
      simpa [h1] using hx
/-- The beginning of a row, to be appended. -/
theorem QAt.src {w : World} {ao : Option Addr} {cap n : Nat} {R : List Rat} (h : QAt w ao cap n R) (j : Nat) (hj : j ≤ R.length) : ArgSrc w (.slice ao j cap) n (R.take j) := by
  by_cases h0 : j = 0
  · subst h0
    exact ⟨[], by simp, ⟨ao, cap, rfl, .inl rfl⟩, fun i hi => by simp at hi⟩
  · obtain ⟨b, off, rfl, hb⟩ := h.spot (by omega)
    have hel : ∀ i, i < j → ∃ q : QV, At4 w b (off + i * 4) (.bool q.n1) (.slice q.a1 q.k1 q.c1) (.bool q.n2) (.slice q.a2 q.k2 q.c2) ∧ ∀ (h' : i < R.length), RArg w q.v n R[i] := by
      intro i hi
      obtain ⟨n1, a1, k1, c1, n2, a2, k2, c2, p1, p2, p3, p4, pA⟩ := (h.at i (by omega)).1
      exact ⟨⟨n1, a1, k1, c1, n2, a2, k2, c2⟩, ⟨p1, p2, p3, p4⟩, fun _ => pA⟩
    obtain ⟨L, hL, hP⟩ := exL j hel
    refine ⟨L, by simp; omega, ⟨_, _, by rw [hL], .inr ⟨_, rfl, fun q u hu => ?_⟩⟩, fun i hi hi' => ?_⟩
    · have hlen := flat_len L
      obtain ⟨hq, -⟩ := List.getElem?_eq_some_iff.1 hu
      have hq4 : q / 4 < L.length := by omega
      obtain ⟨f0, f1, f2, f3⟩ := flat_get L (q / 4) hq4
      obtain ⟨c0, c1, c2, c3⟩ := (hP (q / 4) hq4).1
      simp only [Go.WideShapes.add_plain]
      have h4 : q % 4 = 0 ∨ q % 4 = 1 ∨ q % 4 = 2 ∨ q % 4 = 3 := by omega
      rcases h4 with h4 | h4 | h4 | h4
      · rw [show q / 4 * 4 = q by omega] at f0 c0
        rw [c0, ← f0, hu]
      · rw [show off + q / 4 * 4 + 1 = off + q by omega] at c1
        rw [show q / 4 * 4 + 1 = q by omega] at f1
        rw [c1, ← f1, hu]
      · rw [show off + q / 4 * 4 + 2 = off + q by omega] at c2
        rw [show q / 4 * 4 + 2 = q by omega] at f2
        rw [c2, ← f2, hu]
      · rw [show off + q / 4 * 4 + 3 = off + q by omega] at c3
        rw [show q / 4 * 4 + 3 = q by omega] at f3
        rw [c3, ← f3, hu]
    · rw [List.getElem_take]
      exact (hP i hi).2 _
theorem argSrc_one {w : World} {g n : Nat} {m7 m8 : Bool} {d7 d8 : Option Addr} {j7 e7 j8 e8 : Nat} {r : Rat} (h : Box4 w g (.bool m7) (.slice d7 j7 e7) (.bool m8) (.slice d8 j8 e8)) (hr : RArg w (.agg #[.bool m7, .slice d7 j7 e7, .bool m8, .slice d8 j8 e8]) n r) : ArgSrc w (.slice (some ⟨g, 0, none⟩) 1 1) n [r] :=
  ⟨[⟨m7, d7, j7, e7, m8, d8, j8, e8⟩], rfl, ⟨_, _, rfl, .inr ⟨_, rfl, news_one h⟩⟩, fun j hj hj' => by
    have : j = 0 := by simp at hj; omega
    subst this
    exact hr⟩

theorem wpList_append_arg {ops : Array Oper} {rest : List Oper} {o : Oper} {ac : Act} {w : World} {Q : Exit → Act → World → Prop}
    (hgd : o.guard = none) (s x : Operand) (hop : o.op = Op.call { callee := Callee.builtin Builtin.append, args := #[s, x], argTypes := #[41, 41] })
    (base n : Nat) (v xv : Value) (R S : List Rat) (hs : ac.eval s = v) (hx : ac.eval x = xv) (hO : OwnArg w base v n R) (hS : ArgSrc w xv n S) (k : Nat) (hk2 : k = R.length + S.length) (hk : k ≤ 1000000) (hbase : base ≤ w.heap.size)
    (hK : ∀ ro rc w', OwnArg w' base (.slice ro k rc) n (R ++ S) → w.grownBy w' v.ownBlock → wpList Tryz.prog ops Q rest (ac.put o.dst (.slice ro k rc)) w') : wpList Tryz.prog ops Q (o :: rest) ac w := by
  refine wpList_plain hgd fun K hK' => ?_
  obtain ⟨v', w', hrun, r1, r2⟩ := run_append_arg (w := w) o.type base n v xv R S hO hS (by omega) hbase
  obtain ⟨ro, rc, e, -⟩ := r1.qsl
  rw [List.length_append, ← hk2] at e
  subst e
  unfold Oper.wp
  simp [execOp, hop, resolve, invoke, builtin, hs, hx, hrun, Result.andThen]
  exact hK' _ _ (hK ro rc w' r1 r2)
theorem step_append_arg {ops : Array Oper} {o : Oper} {ac : Act} {w : World} {K : Act → World → Prop} {Q : Exit → Act → World → Prop} {E : Prop}
    (hgd : o.guard = none) (s x : Operand) (hop : o.op = Op.call { callee := Callee.builtin Builtin.append, args := #[s, x], argTypes := #[41, 41] })
    (base n : Nat) (v xv : Value) (R S : List Rat) (hs : ac.eval s = v) (hx : ac.eval x = xv) (hO : OwnArg w base v n R) (hS : ArgSrc w xv n S) (k : Nat) (hk2 : k = R.length + S.length) (hk : k ≤ 1000000) (hbase : base ≤ w.heap.size)
    (hK : ∀ ro rc w', OwnArg w' base (.slice ro k rc) n (R ++ S) → w.grownBy w' v.ownBlock → K (ac.put o.dst (.slice ro k rc)) w') :
    if Region.wanted o (yielded ops ac.tmps) = true then Oper.wp Tryz.prog o ac w K Q else E := by
  have hw : Region.wanted o (yielded ops ac.tmps) = true := by simp [Region.wanted, hgd]
  rw [if_pos hw]
  obtain ⟨v', w', hrun, r1, r2⟩ := run_append_arg (w := w) o.type base n v xv R S hO hS (by omega) hbase
  obtain ⟨ro, rc, e, -⟩ := r1.qsl
  rw [List.length_append, ← hk2] at e
  subst e
  unfold Oper.wp
  simp [execOp, hop, resolve, invoke, builtin, hs, hx, hrun, Result.andThen]
  exact hK ro rc w' r1 r2
theorem wpList_append_argz {ops : Array Oper} {rest : List Oper} {o : Oper} {ac : Act} {w : World} {Q : Exit → Act → World → Prop}
    (hgd : o.guard = none) (s x : Operand) (hop : o.op = Op.call { callee := Callee.builtin Builtin.append, args := #[s, x], argTypes := #[41, 3] })
    (base n : Nat) (v : Value) (R : List Rat) (k : Nat) (hs : ac.eval s = v) (hx : ac.eval x = .int .i64 (k : Int)) (hO : OwnArg w base v n R) (h0 : 0 < k) (m : Nat) (hm : m = R.length + k) (hk : m ≤ 1000000) (hbase : base ≤ w.heap.size)
    (hK : ∀ ro rc w', OwnArg w' base (.slice ro m rc) n (R ++ List.replicate k 0) → w.grownBy w' v.ownBlock → wpList Tryz.prog ops Q rest (ac.put o.dst (.slice ro m rc)) w') : wpList Tryz.prog ops Q (o :: rest) ac w := by
  refine wpList_plain hgd fun K hK' => ?_
  obtain ⟨v', w', hrun, r1, r2⟩ := run_append_argz (w := w) o.type base n v R hO k h0 (by omega) hbase
  obtain ⟨ro, rc, e, -⟩ := r1.qsl
  rw [List.length_append, List.length_replicate, ← hm] at e
  subst e
  unfold Oper.wp
  simp [execOp, hop, resolve, invoke, builtin, hs, hx, hrun, Result.andThen]
  exact hK' _ _ (hK ro rc w' r1 r2)

/-- A row stays while another block without limbs is written. -/
theorem QSl.off' {W W' : World} {v : Value} {n g : Nat} {R : List Rat} (h : QSl W v n R) (hne : R = [] ∨ v.ownBlock ≠ some g) (hno : NoLimb W g) (hW : W.grownBy W' (some g)) : QSl W' v n R := by
  obtain ⟨ao, k, cap, rfl, hk, h1, h2, h3⟩ := h
  refine ⟨ao, k, cap, rfl, hk, h1, h2, ?_⟩
  rcases h3 with h3 | ⟨b, o, rfl, hlt, hc⟩
  · exact .inl h3
  · by_cases h0 : R.length = 0
    · exact .inl h0
    · have hb : b ≠ g := by
        rcases hne with hne | hne
        · exact absurd (by rw [hne]; rfl) h0
        · simpa [Value.ownBlock] using hne
      refine .inr ⟨b, o, rfl, Nat.lt_of_lt_of_le hlt hW.size, fun i hi => ?_⟩
      obtain ⟨n1, a1, k1, c1, n2, a2, k2, c2, q1, q2, q3, q4, q5⟩ := hc i hi
      exact ⟨n1, a1, k1, c1, n2, a2, k2, c2, hW.cell q1 (by simpa using hb), hW.cell q2 (by simpa using hb), hW.cell q3 (by simpa using hb), hW.cell q4 (by simpa using hb), q5.offL hno hW⟩
theorem QSl.none' {W W' : World} {v : Value} {n : Nat} {R : List Rat} (h : QSl W v n R) (hW : W.grownBy W' none) : QSl W' v n R :=
  h.below ⟨hW.os, hW.tape, hW.output, hW.size, fun k hk => hW.block k hk (by simp)⟩
theorem QSl.blk {W : World} {v : Value} {n : Nat} {R : List Rat} (h : QSl W v n R) : R = [] ∨ ∃ b, v.ownBlock = some b ∧ b < W.heap.size := by
  obtain ⟨ao, k, cap, rfl, hk, h1, h2, h3⟩ := h
  rcases h3 with h3 | ⟨b, o, rfl, hlt, hc⟩
  · exact .inl (List.eq_nil_of_length_eq_zero h3)
  · exact .inr ⟨b, rfl, hlt⟩

/-- A table of one's own, whose rows may be handed in. -/
def OwnTab (w : World) (base : Nat) (v : Value) (n : Nat) (M : List (List Rat)) : Prop := ∃ vs : List Value, vs.length = M.length ∧ w.ownsRow base 41 1 v M.length vs ∧ (∀ g, v.ownBlock = some g → NoLimb w g) ∧ ∀ j (h : j < vs.length) (h' : j < M.length), QSl w vs[j] n M[j] ∧ (M[j] = [] ∨ vs[j].ownBlock ≠ v.ownBlock)
theorem OwnTab.nil (w : World) (base n : Nat) : OwnTab w base (.slice none 0 0) n [] := ⟨[], rfl, World.ownsRow_nil _ _ _ _, by simp [Value.ownBlock], fun j h => by simp at h⟩
theorem OwnTab.below {w w' : World} {base n : Nat} {v : Value} {M : List (List Rat)} (h : OwnTab w base v n M) (hb : Below w.heap.size w w') : OwnTab w' base v n M := by
  obtain ⟨vs, h1, h2, h3, h4⟩ := h
  have hg : w.grownBy w' none := ⟨hb.os, hb.tape, hb.output, hb.size, fun k hk _ => hb.block k hk⟩
  refine ⟨vs, h1, h2.kept hg (by cases hv : v.ownBlock with | none => exact .inl rfl | some g => exact .inr (by simp)), fun g hv j z => ?_, fun j hj hj' => ⟨(h4 j hj hj').1.below hb, (h4 j hj hj').2⟩⟩
  rw [bcells hb g j (h2.lt g hv).2]
  exact h3 g hv j z
theorem OwnTab.lt {w : World} {base n : Nat} {v : Value} {M : List (List Rat)} (h : OwnTab w base v n M) : ∀ g, v.ownBlock = some g → base ≤ g ∧ g < w.heap.size := by
  obtain ⟨vs, h1, h2, h3, h4⟩ := h
  exact fun g hg => h2.lt g hg
theorem OwnTab.qtab {w : World} {base n : Nat} {v : Value} {M : List (List Rat)} (h : OwnTab w base v n M) : ∃ ao cap, v = .slice ao M.length cap ∧ QTab w ao cap n M := by
  obtain ⟨vs, h1, h2, h3, h4⟩ := h
  rcases h2.2 with ⟨rfl, h0⟩ | ⟨g, cap, cur, rfl, hbg, hg, hnc, hcm, hcs, htake⟩
  · exact ⟨none, 0, by rw [h0], by omega, by unfold maxLen; omega, .inl h0⟩
  · refine ⟨_, cap, rfl, hnc, hcm, .inr ⟨g, 0, rfl, (Array.getElem?_eq_some_iff.1 hg).1, fun i hi => ?_⟩⟩
    have hi' : i < vs.length := by omega
    have hc := h2.cellAt i (by omega)
    obtain ⟨a, k, c, e, h5, h6⟩ := (h4 i hi' hi).1
    rw [List.getElem?_eq_getElem hi', e] at hc
    exact ⟨a, k, c, by rw [Nat.zero_add]; exact hc, a, k, c, rfl, h5, h6⟩
theorem zero1_no (n : Nat) : ∀ u ∈ (Builtin.zeroCells (Value.slice none 0 0).cells n).toList, ∀ z, u ≠ .int .u32 z := by
  intro u hu z
  have hcells : (Value.slice none 0 0).cells = #[.slice none 0 0] := rfl
  rw [hcells] at hu
  unfold Builtin.zeroCells at hu
  simp only [Array.toList_map, List.mem_map] at hu
  obtain ⟨x, -, rfl⟩ := hu
  have h4 : x % (#[Value.slice none 0 0] : Array Value).size = 0 := by simp; omega
  rw [h4]
  simp
theorem run_append_tab {w : World} (ty : TypeId) (base n : Nat) (v : Value) (M : List (List Rat)) (hO : OwnTab w base v n M) (gx : Nat) (rv : Value) (R : List Rat) (hx : w.cell? ⟨gx, 0, none⟩ = some rv) (hr : QSl w rv n R) (hne : R = [] ∨ v.ownBlock = none ∨ rv.ownBlock ≠ v.ownBlock) (hk : M.length ≤ 1000) (hbase : base ≤ w.heap.size) :
    ∃ v' w', (Builtin.append_ #[40, 40] ty #[v, .slice (some ⟨gx, 0, none⟩) 1 1]).run Tryz.prog w = .ok v' w' ∧ OwnTab w' base v' n (M ++ [R]) ∧ w.grownBy w' v.ownBlock := by
  obtain ⟨i0, hi, hz0, hz1, hz2⟩ := info_parts Tryz.infoRow
  obtain ⟨vs, h1, h2, h3, h4⟩ := hO
  obtain ⟨ra, rk, rc, rfl, -⟩ := id hr
  have hnews : ∀ j u, ([Value.slice ra rk rc] : List Value)[j]? = some u → w.cell? ((⟨gx, 0, none⟩ : Addr).add j) = some u := by
    intro j u hu
    match j, hu with
    | 0, hu => simp at hu; subst hu; simpa [Addr.add] using hx
    | j + 1, hu => simp at hu
  have hone : ∀ u ∈ ([Value.slice ra rk rc] : List Value), u.oneCell' = true := by
    intro u hu
    simp at hu
    subst hu
    rfl
  have hby : (M.length + 1) * 24 ≤ 140737488355328 := by omega
  obtain ⟨v', w', hrun, o1, o2, -⟩ := run_append_own (P := Tryz.prog) w base 40 ty 41 i0 _ 1 24 Tryz.underlying40 hi hz0 hz1 hz2 rfl (by decide) v M.length vs h2 ⟨gx, 0, none⟩ 1 1 [.slice ra rk rc] rfl hnews hone (by unfold maxLen; omega) hby hbase
  have hold : ∀ u (S : List Rat), QSl w u n S → (S = [] ∨ v.ownBlock = none ∨ u.ownBlock ≠ v.ownBlock) → QSl w' u n S := by
    intro u S hS hn
    cases hv : v.ownBlock with
    | none => rw [hv] at o2; exact hS.none' o2
    | some g =>
      rw [hv] at o2 hn
      exact hS.off' (by rcases hn with hn | hn | hn; exact .inl hn; simp at hn; exact .inr hn) (h3 g hv) o2
  have key : (∀ g, v'.ownBlock = some g → NoLimb w' g) ∧ (v'.ownBlock = v.ownBlock ∨ v'.ownBlock = some w.heap.size) := by
    rcases h2.2 with ⟨rfl, h0⟩ | ⟨g0, cap, cur, rfl, hbg, hg, hnc, hcm, hcs, htake⟩
    · have hvs : vs = [] := List.eq_nil_of_length_eq_zero (by omega)
      subst hvs
      have e := run_append_nil (P := Tryz.prog) w 40 ty 41 i0 _ Tryz.underlying40 hi hz0 ⟨gx, 0, none⟩ 1 1 [.slice ra rk rc] (by rw [hz1]; rfl) hnews (by omega) (by omega) (by rw [hz2]; omega)
      rw [e] at hrun
      simp only [Result.ok.injEq] at hrun
      obtain ⟨rfl, rfl⟩ := hrun
      refine ⟨fun g hv => ?_, .inr rfl⟩
      simp only [Value.ownBlock, Option.some.injEq] at hv
      subst hv
      refine noLimb_of (heap_alloc_new w.drew _) ?_
      intro u hu z
      simp only [Array.toList_append, List.mem_append] at hu
      rcases hu with hu | hu
      · simp at hu; subst hu; simp
      · exact zero1_no _ u hu z
    · have hno : ∀ u ∈ cur.toList, ∀ z, u ≠ .int .u32 z := by
        intro u hu z e
        obtain ⟨j, hj, rfl⟩ := List.getElem_of_mem hu
        refine h3 g0 rfl j z ?_
        rw [cell_of_row w g0 j cur _ _ hg, Array.getElem?_eq_getElem (by simpa using hj)]
        simpa using e
      by_cases hroom : M.length + 1 ≤ cap
      · have e := run_append_room (P := Tryz.prog) w 40 ty 41 i0 Tryz.underlying40 hi g0 M.length cap cur hg ⟨gx, 0, none⟩ 1 1 [.slice ra rk rc] (by rw [hz1]; rfl) hnews hone hroom (by rw [hz1]; simp; omega)
        rw [e] at hrun
        simp only [Result.ok.injEq] at hrun
        obtain ⟨rfl, rfl⟩ := hrun
        refine ⟨fun g hv => ?_, .inl rfl⟩
        simp only [Value.ownBlock, Option.some.injEq] at hv
        subst hv
        refine noLimb_of (setRow_heap w g0 cur _ _ _ hg) ?_
        intro u hu z
        simp only [List.mem_append] at hu
        rcases hu with (hu | hu) | hu
        · exact hno u (List.mem_of_mem_take hu) z
        · simp at hu; subst hu; simp
        · exact hno u (List.mem_of_mem_drop hu) z
      · have holds : ∀ j u, vs[j]? = some u → w.cell? ((⟨g0, 0, none⟩ : Addr).add j) = some u := h2.cells (g := g0) rfl
        have e := run_append_grow (P := Tryz.prog) w 40 ty 41 i0 _ Tryz.underlying40 hi hz0 ⟨g0, 0, none⟩ M.length cap vs (by rw [hz1]; omega) holds ⟨gx, 0, none⟩ 1 1 [.slice ra rk rc] (by rw [hz1]; rfl) hnews (by omega) (by omega) (growslice_fits (by omega) (by rw [hz2]; exact hby))
        rw [e] at hrun
        simp only [Result.ok.injEq] at hrun
        obtain ⟨rfl, rfl⟩ := hrun
        refine ⟨fun g hv => ?_, .inr rfl⟩
        simp only [Value.ownBlock, Option.some.injEq] at hv
        subst hv
        refine noLimb_of (heap_alloc_new w.drew _) ?_
        intro u hu z
        simp only [Array.toList_append, List.mem_append] at hu
        rcases hu with (hu | hu) | hu
        · obtain ⟨j, hj, rfl⟩ := List.getElem_of_mem (show u ∈ vs by simpa using hu)
          obtain ⟨a, k, c, e, -⟩ := (h4 j hj (by omega)).1
          rw [e]
          simp
        · simp at hu; subst hu; simp
        · exact zero1_no _ u hu z
  have hblk : ∀ u (S : List Rat), QSl w u n S → (S = [] ∨ v.ownBlock = none ∨ u.ownBlock ≠ v.ownBlock) → (S = [] ∨ u.ownBlock ≠ v'.ownBlock) := by
    intro u S hS hn
    by_cases hS0 : S = []
    · exact .inl hS0
    rcases hS.blk with h | ⟨b, hb, hlt⟩
    · exact .inl h
    · right
      rcases key.2 with e | e
      · rw [e]
        rcases hn with hn | hn | hn
        · exact absurd hn hS0
        · rw [hn, hb]; simp
        · exact hn
      · rw [e, hb]
        simp
        omega
  refine ⟨v', w', hrun, ⟨vs ++ [.slice ra rk rc], by simp [h1], by simpa using o1, key.1, fun j hj hj' => ?_⟩, o2⟩
  by_cases hl : j < vs.length
  · rw [List.getElem_append_left hl, List.getElem_append_left (by omega)]
    obtain ⟨q1, q2⟩ := h4 j hl (by omega)
    have q3 : M[j] = [] ∨ v.ownBlock = none ∨ vs[j].ownBlock ≠ v.ownBlock := by rcases q2 with q2 | q2; exact .inl q2; exact .inr (.inr q2)
    exact ⟨hold _ _ q1 q3, hblk _ _ q1 q3⟩
  · simp at hj
    have : j = vs.length := by omega
    subst this
    rw [List.getElem_append_right (by omega), List.getElem_append_right (by omega)]
    simp only [Nat.sub_self, h1, List.getElem_cons_zero]
    exact ⟨hold _ _ hr hne, hblk _ _ hr hne⟩
theorem wpList_append_tab {ops : Array Oper} {rest : List Oper} {o : Oper} {ac : Act} {w : World} {Q : Exit → Act → World → Prop}
    (hgd : o.guard = none) (s x : Operand) (hop : o.op = Op.call { callee := Callee.builtin Builtin.append, args := #[s, x], argTypes := #[40, 40] })
    (base n : Nat) (v : Value) (M : List (List Rat)) (gx : Nat) (rv : Value) (R : List Rat) (hs : ac.eval s = v) (hx : ac.eval x = .slice (some ⟨gx, 0, none⟩) 1 1) (hO : OwnTab w base v n M) (hc : w.cell? ⟨gx, 0, none⟩ = some rv) (hr : QSl w rv n R) (hne : R = [] ∨ v.ownBlock = none ∨ rv.ownBlock ≠ v.ownBlock) (k : Nat) (hk2 : k = M.length + 1) (hk : k ≤ 1000) (hbase : base ≤ w.heap.size)
    (hK : ∀ ro rc w', OwnTab w' base (.slice ro k rc) n (M ++ [R]) → w.grownBy w' v.ownBlock → wpList Tryz.prog ops Q rest (ac.put o.dst (.slice ro k rc)) w') : wpList Tryz.prog ops Q (o :: rest) ac w := by
  refine wpList_plain hgd fun K hK' => ?_
  obtain ⟨v', w', hrun, r1, r2⟩ := run_append_tab (w := w) o.type base n v M hO gx rv R hc hr hne (by omega) hbase
  obtain ⟨ro, rc, e, -⟩ := r1.qtab
  rw [List.length_append, List.length_singleton, ← hk2] at e
  subst e
  unfold Oper.wp
  simp [execOp, hop, resolve, invoke, builtin, hs, hx, hrun, Result.andThen]
  exact hK' _ _ (hK ro rc w' r1 r2)

end Go.Proofs.YtmnlggmdomcajaaGreat

namespace Go.Proofs.YtmnlggmdomcajaaGreat
open Go.RowKit Lm
set_option linter.unusedSimpArgs false
set_option linter.unusedVariables false
set_option maxRecDepth 100000

theorem rawTab1 {W0 : World} {g : Nat} (hg : g = W0.heap.size) {a : Option Addr} {k1 c1 : Nat} {A : List RQ} (e1 : k1 = A.length) (h1 : RawRow W0 a c1 A) : RawTab (W0.alloc (.cells #[.slice a k1 c1] 41)) (some ⟨g, 0, none⟩) 1 [A] := by
  subst hg
  have h := heap_alloc_new W0 (.cells #[.slice a k1 c1] 41)
  have hb : Below W0.heap.size W0 (W0.alloc (.cells #[.slice a k1 c1] 41)) := (Below.refl _ _).alloc (Nat.le_refl _) _
  refine ⟨Nat.le_refl _, by unfold maxLen; omega, .inr ⟨W0.heap.size, 0, rfl, (Array.getElem?_eq_some_iff.1 h).1, fun i hi => ?_⟩⟩
  simp at hi
  subst hi
  exact ⟨_, _, _, by rw [cell_of_row _ _ _ _ _ _ h]; rfl, e1, h1.below hb⟩
theorem qtab1 {W : World} {g n : Nat} {u : Value} {A : List Rat} (h : W.heap[g]? = some (.cells #[u] 41 (0, 0))) (hu : QSl W u n A) : QTab W (some ⟨g, 0, none⟩) 1 n [A] := by
  refine ⟨Nat.le_refl _, by unfold maxLen; omega, .inr ⟨g, 0, rfl, (Array.getElem?_eq_some_iff.1 h).1, fun i hi => ?_⟩⟩
  simp at hi
  subst hi
  obtain ⟨a, k, c, rfl, h1, h2⟩ := hu
  exact ⟨a, k, c, by rw [cell_of_row _ _ _ _ _ _ h]; rfl, a, k, c, rfl, h1, h2⟩
theorem qtab2 {W : World} {g n : Nat} {u v : Value} {A B : List Rat} (h : W.heap[g]? = some (.cells #[u, v] 41 (0, 0))) (hu : QSl W u n A) (hv : QSl W v n B) : QTab W (some ⟨g, 0, none⟩) 2 n [A, B] := by
  refine ⟨Nat.le_refl _, by unfold maxLen; omega, .inr ⟨g, 0, rfl, (Array.getElem?_eq_some_iff.1 h).1, fun i hi => ?_⟩⟩
  obtain ⟨a, k, c, rfl, h1, h2⟩ := hu
  obtain ⟨b, j, d, rfl, h3, h4⟩ := hv
  simp at hi
  rcases (show i = 0 ∨ i = 1 by omega) with rfl | rfl
  · exact ⟨a, k, c, by rw [cell_of_row _ _ _ _ _ _ h]; rfl, a, k, c, rfl, h1, h2⟩
  · exact ⟨b, j, d, by rw [cell_of_row _ _ _ _ _ _ h]; rfl, b, j, d, rfl, h3, h4⟩
theorem grown_below {w W W' : World} {B : Nat} {v : Value} {R : List Rat} {base n : Nat} (h : Below B w W) (hO : OwnArg W base v n R) (hg : W.grownBy W' v.ownBlock) (hB : B ≤ base) (hs : B ≤ W.heap.size) : Below B w W' :=
  h.grown hg hs (fun q e => by have := (hO.lt q e).1; omega)

end Go.Proofs.YtmnlggmdomcajaaGreat

namespace Go.Proofs.YtmnlggmdomcajaaGreat
open Go.RowKit Lm
set_option linter.unusedSimpArgs false
set_option linter.unusedVariables false
set_option maxRecDepth 100000

/-- A row of n numbers: what is there, and then the places' own numbers. -/
def cutI (R : List Rat) (n i : Nat) : List Rat := R.take n ++ (List.range' R.length i).map (fun j => (((j : Nat) : Int) : Rat))
def cutR (R : List Rat) (n : Nat) : List Rat := cutI R n (n - R.length)
def cutT (M : List (List Rat)) (n : Nat) : List (List Rat) := M.map (fun R => cutR R n)
theorem cutI_len (R : List Rat) (n i : Nat) : (cutI R n i).length = min n R.length + i := by simp [cutI]
theorem cutI_zero (R : List Rat) (n : Nat) : cutI R n 0 = R.take n := by simp [cutI]
theorem cutI_next (R : List Rat) (n i : Nat) : cutI R n (i + 1) = cutI R n i ++ [(((R.length + i : Nat) : Int) : Rat)] := by
  unfold cutI
  rw [List.range'_concat, List.map_append, List.append_assoc]
  simp
theorem cutR_len (R : List Rat) (n : Nat) : (cutR R n).length = n := by rw [cutR, cutI_len]; omega
theorem cutT_len (M : List (List Rat)) (n : Nat) : (cutT M n).length = M.length := by simp [cutT]
theorem cutT_wide (M : List (List Rat)) (n : Nat) : ∀ R ∈ cutT M n, R.length = n := by
  intro R hR
  obtain ⟨S, -, rfl⟩ := List.mem_map.1 hR
  exact cutR_len S n
theorem cutT_next {M : List (List Rat)} {i : Nat} (n : Nat) (h : i < M.length) : cutT (M.take (i + 1)) n = cutT (M.take i) n ++ [cutR M[i] n] := by
  unfold cutT
  rw [List.take_succ_eq_append_getElem h, List.map_append]
  rfl
theorem take_min (R : List Rat) (n : Nat) : R.take (min R.length n) = R.take n := by
  by_cases h : n ≤ R.length
  · rw [Nat.min_eq_right h]
  · rw [Nat.min_eq_left (by omega), List.take_of_length_le (by omega), List.take_of_length_le (by omega)]
def CutRel (w : World) (k n s : Nat) (M : List (List Rat)) (ov iv : Value) (wr : World) : Prop := ∃ i : Nat, i ≤ k ∧ iv = .int .i64 i ∧ OwnTab wr w.heap.size ov s (cutT (M.take i) n) ∧ Below w.heap.size w wr
theorem add_zero' (x : Addr) : x.add 0 = x := by
  obtain ⟨b, o, sp⟩ := x
  unfold Addr.add
  split <;> simp_all
theorem run_slice_q (w : World) (a : Option Addr) (kr cr jj : Nat) (hj : jj ≤ cr) : (Instr.slice 41 (.slice a kr cr) none (some (.int .i64 (jj : Int))) none).run Tryz.prog w = .ok (.slice a jj cr) w := by
  obtain ⟨i0, hi, hz0, hz1, hz2⟩ := info_parts Tryz.infoRat
  have h1 : (0 : Int) ≤ (jj : Int) ∧ (jj : Int) ≤ (cr : Int) := by omega
  have hmp : Option.map (fun x : Addr => x.add 0) a = a := by
    cases a with
    | none => rfl
    | some x => simp [add_zero']
  simp [Instr.slice, Instr.sliceBounds, Instr.sliceBound, run_underlying Tryz.underlying41, sizeOf, typeInfo, hi, asIntOf, h1, hmp]
  intro h
  omega
theorem step_slice_q {ops : Array Oper} {o : Oper} {ac : Act} {w : World} {K : Act → World → Prop} {Q : Exit → Act → World → Prop} {E : Prop}
    (hgd : o.guard = none) (s h : Operand) (hop : o.op = Op.slice 41 s none (some h) none) (a : Option Addr) (kr cr jj : Nat) (hs : ac.eval s = .slice a kr cr) (hh : ac.eval h = .int .i64 (jj : Int)) (hj : jj ≤ cr)
    (hK : K (ac.put o.dst (.slice a jj cr)) w) :
    if Region.wanted o (yielded ops ac.tmps) = true then Oper.wp Tryz.prog o ac w K Q else E := by
  have hw : Region.wanted o (yielded ops ac.tmps) = true := by simp [Region.wanted, hgd]
  rw [if_pos hw]
  have hr := run_slice_q w a kr cr jj hj
  unfold Oper.wp
  simp [execOp, hop, Instr.sliceAt, hs, hh, hr, Result.andThen]
  exact hK
def sLen : Value → Nat
  | .slice _ k _ => k
  | _ => 0
def CutFirst (wr : World) (n s jj : Nat) (R : List Rat) (rv : Value) (wc : World) : Prop := ∃ ro rc, rv = .slice ro jj rc ∧ OwnArg wc wr.heap.size rv s (R.take n) ∧ Below wr.heap.size wr wc
def CutRow (w0 : World) (n s : Nat) (R : List Rat) (rv : Value) (wr : World) : Prop := ∃ j : Nat, (n ≤ R.length → j = 0) ∧ min n R.length + j ≤ n ∧ OwnArg wr w0.heap.size rv s (cutI R n j) ∧ Below w0.heap.size w0 wr

end Go.Proofs.YtmnlggmdomcajaaGreat

namespace Go.Proofs.YtmnlggmdomcajaaGreat
open Go.RowKit Lm
set_option linter.unusedSimpArgs false
set_option linter.unusedVariables false
set_option maxRecDepth 100000

theorem dotR_comm (A B : List Rat) : dotR A B = dotR B A := by
  induction A generalizing B with
  | nil => cases B <;> rfl
  | cons a A ih =>
    cases B with
    | nil => rfl
    | cons b B =>
      show a * b + dotR A B = b * a + dotR B A
      rw [ih B, Rat.mul_comm]
theorem dot_plus2 (A B C : List Rat) (t : Rat) (h1 : A.length = B.length) (h2 : A.length = C.length) : dotR (plusR A t B) C = dotR A C + t * dotR B C := by
  induction A generalizing B C with
  | nil =>
    cases B with
    | cons b B => simp at h1
    | nil =>
      cases C with
      | cons c C => simp at h2
      | nil => show (0 : Rat) = 0 + t * 0; rw [Rat.mul_zero, Rat.add_zero]
  | cons a A ih =>
    cases B with
    | nil => simp at h1
    | cons b B =>
      cases C with
      | nil => simp at h2
      | cons c C =>
        simp at h1 h2
        show (a + t * b) * c + dotR (plusR A t B) C = a * c + dotR A C + t * (b * c + dotR B C)
        rw [ih B C h1 h2]
        grind
theorem dot_zeros (n : Nat) (X : List Rat) : dotR (List.replicate n 0) X = 0 := by
  induction n generalizing X with
  | zero => exact dotR_nil X
  | succ n ih =>
    cases X with
    | nil => rfl
    | cons x X =>
      show (0 : Rat) * x + dotR (List.replicate n 0) X = 0
      rw [ih X, Rat.zero_mul, Rat.add_zero]
theorem timesR_len (M : List (List Rat)) (X : List Rat) : (timesR M X).length = M.length := by simp [timesR]
theorem cols_len (M : List (List Rat)) (n : Nat) : (cols M n).length = n := by simp [cols]
/-- From the left, and then with x, is with x, and then from the left. -/
theorem dot_left {M : List (List Rat)} {X Y : List Rat} {n : Nat} (hl : M.length = Y.length) (hw : ∀ R ∈ M, R.length = n) (hX : X.length = n) : dotR (timesR (cols M n) Y) X = dotR Y (timesR M X) := by
  have key : ∀ i, i ≤ M.length → dotR (leftR M Y n i) X = dotR (Y.take i) ((timesR M X).take i) := by
    intro i
    induction i with
    | zero => intro _; rw [leftR_zero, dot_zeros, List.take_zero, dotR_nil]
    | succ i ih =>
      intro hi
      have hm : M[i].length = n := hw _ (List.getElem_mem _)
      have ht : (timesR M X)[i]'(by rw [timesR_len]; omega) = dotR M[i] X := by simp [timesR]
      rw [← leftR_next (by omega) (by omega) hl hm, dot_plus2 _ _ _ _ (by rw [leftR_len, hm]) (by rw [leftR_len, hX]), ih (by omega), dotR_take Y (timesR M X) i (by omega) (by rw [timesR_len, hl]), ht]
  have h := key M.length (Nat.le_refl _)
  rw [leftR_end hl, List.take_of_length_le (by omega), List.take_of_length_le (by rw [timesR_len]; omega)] at h
  exact h
theorem wide_of {M : List (List Rat)} {n : Nat} (h : ∀ R ∈ M, R.length = n) : wide M n = true := by
  unfold wide
  rw [List.all_eq_true]
  intro R hR
  exact decide_eq_true (by rw [h R hR])

theorem run_min2 {P : Program} (w : World) (ts : Array TypeId) (t : TypeId) (x y : Int) : (Builtin.min_ ts t #[.int .i64 x, .int .i64 y]).run P w = .ok (.int .i64 (min x y)) w := by
  have e : ∀ a b : Int, (if b < a then b else a) = min a b := by
    intro a b
    rw [Int.min_def]
    split <;> split <;> omega
  simp [Builtin.min_, Builtin.min2, e]

end Go.Proofs.YtmnlggmdomcajaaGreat

namespace Go.Proofs.YtmnlggmdomcajaaGreat
open Go.RowKit Lm
set_option linter.unusedSimpArgs false
set_option linter.unusedVariables false
set_option maxRecDepth 100000

theorem cmpR_zero (r t : Rat) : cmpR r t = 0 ↔ r = t := by
  rcases cmpR_or r t with ⟨h, e⟩ | ⟨h, e⟩ | ⟨h, e⟩
  · rw [e]
    constructor
    · intro h0; omega
    · intro h0; subst h0; exact absurd h (Rat.lt_irrefl)
  · exact ⟨fun _ => h, fun _ => e⟩
  · rw [e]
    constructor
    · intro h0; omega
    · intro h0; subst h0; exact absurd h (Rat.lt_irrefl)

theorem QSl.cellsAt {w : World} {ao : Option Addr} {k c n : Nat} {R : List Rat} (h : QSl w (.slice ao k c) n R) (h0 : 0 < R.length) : ∃ b off, ao = some ⟨b, off, none⟩ ∧ b < w.heap.size ∧ ∀ i (h : i < R.length), ∃ n1 a1 k1 c1 n2 a2 k2 c2, At4 w b (off + i * 4) (.bool n1) (.slice a1 k1 c1) (.bool n2) (.slice a2 k2 c2) ∧ RArg w (.agg #[.bool n1, .slice a1 k1 c1, .bool n2, .slice a2 k2 c2]) n R[i] := by
  obtain ⟨hk, h1⟩ := qsl_at h
  obtain ⟨b, off, rfl, hl⟩ := h1.spot h0
  refine ⟨b, off, rfl, hl, fun i hi => ?_⟩
  obtain ⟨n1, a1, k1, c1, n2, a2, k2, c2, p1, p2, p3, p4, pA⟩ := (h1.at i hi).1
  exact ⟨n1, a1, k1, c1, n2, a2, k2, c2, ⟨p1, p2, p3, p4⟩, pA⟩

set_option maxHeartbeats 3200000 in
theorem rats_any (w : World) (ao bo : Option Addr) (k j ca cb n m : Nat) (A B : List Rat) (hA : QSl w (.slice ao k ca) n A) (hB : QSl w (.slice bo j cb) m B) (hn : n ≤ 5000) (hm : m ≤ 5000) :
    Calls Tryz.prog 78 #[.slice ao k ca, .slice bo j cb] w fun e w' => e = .returned (.bool (decide (A = B))) ∧ Below w.heap.size w w' := by
  obtain ⟨hka, hk64⟩ := hA.len
  obtain ⟨hkb, hj64⟩ := hB.len
  by_cases hkj : k = j
  · subst hkj
    have HA := hid hA
    have HB := hid hB
    have HKA := hid hka
    have HKB := hid hkb
    clear hA hB hka hkb
    go_enter Tryz.func78, Tryz.ntmps78
    go_wp2
    go_loopw [5] (fun iv wr => ∃ i : Nat, i ≤ k ∧ iv = .int .i64 i ∧ (∀ p (h : p < A.length) (h' : p < B.length), p < i → A[p] = B[p]) ∧ Below w.heap.size w wr) (fun iv wr => k - (intOf iv).toNat)
    case atStart => exact ⟨0, Nat.zero_le _, rfl, fun p _ _ h => by omega, Below.refl _ _⟩
    case round =>
      obtain ⟨i, hik, rfl, hall, HBW⟩ := hrel
      have HALL := hid hall
      clear hall
      by_cases hlt : i < k
      · have hiA : i < A.length := by rw [← HKA.out]; exact hlt
        have hiB : i < B.length := by rw [← HKB.out]; exact hlt
        obtain ⟨b1, o1, rfl, l1, hcA⟩ := HA.out.cellsAt (by omega)
        obtain ⟨b2, o2, rfl, l2, hcB⟩ := HB.out.cellsAt (by omega)
        obtain ⟨n1, a1, k1, c1, n2, a2, k2, c2, hC1, hX⟩ := hcA i hiA
        obtain ⟨n3, a3, k3, c3, n4, a4, k4, c4, hC2, hY⟩ := hcB i hiB
        have HX := hid hX
        have HY := hid hY
        clear hX hY hcA hcB
        obtain ⟨z, hz⟩ : ∃ z, cmpR A[i] B[i] = z := ⟨_, rfl⟩
        have HZ := hid hz
        replace HBW := HBW.drew
        by_cases hz0 : z = 0
        · subst hz0
          have HEQ : Hid (A[i] = B[i]) := hid ((cmpR_zero _ _).1 hz)
          clear hz
          go_wp2
          go_region_held3 (fun W' => W'.cell? ⟨b1, o1 + i * 4, none⟩ = some (.bool n1) ∧ W'.cell? ⟨b1, o1 + i * 4 + 1, none⟩ = some (.slice a1 k1 c1) ∧ W'.cell? ⟨b1, o1 + i * 4 + 2, none⟩ = some (.bool n2) ∧ W'.cell? ⟨b1, o1 + i * 4 + 3, none⟩ = some (.slice a2 k2 c2) ∧ W'.cell? ⟨b2, o2 + i * 4, none⟩ = some (.bool n3) ∧ W'.cell? ⟨b2, o2 + i * 4 + 1, none⟩ = some (.slice a3 k3 c3) ∧ W'.cell? ⟨b2, o2 + i * 4 + 2, none⟩ = some (.bool n4) ∧ W'.cell? ⟨b2, o2 + i * 4 + 3, none⟩ = some (.slice a4 k4 c4)) (exact keepAA hC1 l1 hC2 l2 HBW) (first
            | (go_at_call 33; go_must (refine (cmpRat_any _ _ _ n m A[i] B[i] (HX.out.below HBW) (HY.out.below HBW) hn hm).mono ?_); rintro e w1 ⟨rfl, hb⟩; rw [HZ.out]; have HBn := below_call HBW hb HBW.size; clear HBW hb; have HBW := HBn; clear HBn))
          have HBW2 := hid HBW
          clear HBW
          go_wp2
          go_roundw
          case rel =>
            refine ⟨i + 1, by omega, by go_num, fun p hp hp' hpi => ?_, HBW2.out⟩
            by_cases hpi2 : p = i
            · subst hpi2; exact HEQ.out
            · exact HALL.out p hp hp' (by omega)
          case measure => simp [intOf]; omega
        · have HNE : Hid (decide (A = B) = false) := hid (decide_eq_false (fun h => by
            subst h
            exact hz0 (by rw [← HZ.out]; exact (cmpR_zero _ _).2 rfl)))
          have hzb : (z != 0) = true := by simp [hz0]
          clear hz
          go_wp2
          go_region_held3 (fun W' => W'.cell? ⟨b1, o1 + i * 4, none⟩ = some (.bool n1) ∧ W'.cell? ⟨b1, o1 + i * 4 + 1, none⟩ = some (.slice a1 k1 c1) ∧ W'.cell? ⟨b1, o1 + i * 4 + 2, none⟩ = some (.bool n2) ∧ W'.cell? ⟨b1, o1 + i * 4 + 3, none⟩ = some (.slice a2 k2 c2) ∧ W'.cell? ⟨b2, o2 + i * 4, none⟩ = some (.bool n3) ∧ W'.cell? ⟨b2, o2 + i * 4 + 1, none⟩ = some (.slice a3 k3 c3) ∧ W'.cell? ⟨b2, o2 + i * 4 + 2, none⟩ = some (.bool n4) ∧ W'.cell? ⟨b2, o2 + i * 4 + 3, none⟩ = some (.slice a4 k4 c4)) (exact keepAA hC1 l1 hC2 l2 HBW) (first
            | (go_at_call 33; go_must (refine (cmpRat_any _ _ _ n m A[i] B[i] (HX.out.below HBW) (HY.out.below HBW) hn hm).mono ?_); rintro e w1 ⟨rfl, hb⟩; rw [HZ.out]; have HBn := below_call HBW hb HBW.size; clear HBW hb; have HBW := HBn; clear HBn))
          have HBW2 := hid HBW
          clear HBW
          go_wp2
          go_ret
          exact ⟨ret_bool HNE.out.symm, HBW2.out⟩
      · have HEQ : Hid (decide (A = B) = true) := hid (decide_eq_true (List.ext_getElem (by rw [← HKA.out, ← HKB.out]) fun p hp hp' => HALL.out p hp hp' (by have := HKA.out; omega)))
        have HBW2 := hid HBW
        clear HBW
        go_wp2
        go_ret
        exact ⟨ret_bool HEQ.out.symm, HBW2.out⟩
  · have hne : ((k : Int) != (j : Int)) = true := by simp; omega
    have HNE : Hid (decide (A = B) = false) := hid (decide_eq_false (fun h => by subst h; omega))
    clear hA hB hka hkb
    go_enter Tryz.func78, Tryz.ntmps78
    go_wp2
    go_ret
    exact ⟨ret_bool HNE.out.symm, Below.refl _ _⟩

/-- A row of noughts that has been made. -/
theorem made_qsl {W : World} {base k g : Nat} (h : W.ownsRow base 26 4 (.slice (some ⟨g, 0, none⟩) k k) k (madeCells (Value.agg #[.bool false, .slice none 0 0, .bool false, .slice none 0 0]).cells (k * 4)).toList) (hm : k ≤ maxLen) (n : Nat) : QSl W (.slice (some ⟨g, 0, none⟩) k k) n (List.replicate k 0) := by
  have hf : (madeCells (Value.agg #[.bool false, .slice none 0 0, .bool false, .slice none 0 0]).cells (k * 4)).toList = flat (List.replicate k zeroQ) := zeros_flat k
  have hl := (made4 _ _ _ _ h).lt
  refine ⟨_, _, _, rfl, by simp, by simp, hm, .inr ⟨g, 0, rfl, hl, fun i hi => ?_⟩⟩
  have hi' : i < (List.replicate k zeroQ).length := by simpa using hi
  obtain ⟨f0, f1, f2, f3⟩ := flat_get (List.replicate k zeroQ) i hi'
  rw [← hf] at f0 f1 f2 f3
  rw [List.length_replicate] at hi hi'
  rw [List.getElem_replicate] at f0 f1 f2 f3
  rw [Nat.zero_add, List.getElem_replicate]
  exact ⟨_, _, _, _, _, _, _, _, (h.cellAt (i * 4) (by omega)).trans f0, (h.cellAt (i * 4 + 1) (by omega)).trans f1, (h.cellAt (i * 4 + 2) (by omega)).trans f2, (h.cellAt (i * 4 + 3) (by omega)).trans f3, (rarg_zero W).mono (Nat.zero_le _)⟩
/-- One of its numbers is set. -/
theorem QSl.setAt {W : World} {g k n i : Nat} {R : List Rat} {n1 n2 : Bool} {a1 a2 : Option Addr} {k1 c1 k2 c2 : Nat} {r : Rat} (h : QSl W (.slice (some ⟨g, 0, none⟩) k k) n R) (hB : QBlk W g k) (hi : i < k) (hr : RArg W (.agg #[.bool n1, .slice a1 k1 c1, .bool n2, .slice a2 k2 c2]) n r) : QSl (fillAt W g (i * 4) (.bool n1) (.slice a1 k1 c1) (.bool n2) (.slice a2 k2 c2)) (.slice (some ⟨g, 0, none⟩) k k) n (R.set i r) := by
  obtain ⟨hk, h1⟩ := qsl_at h
  have hG := growAt W g (i * 4) (.bool n1) (.slice a1 k1 c1) (.bool n2) (.slice a2 k2 c2)
  refine ⟨_, _, _, rfl, by rw [List.length_set]; exact hk, by rw [List.length_set]; exact h1.1, h1.2.1, .inr ⟨g, 0, rfl, Nat.lt_of_lt_of_le hB.lt hG.size, fun j hj => ?_⟩⟩
  rw [List.length_set] at hj
  rw [Nat.zero_add]
  by_cases hji : j = i
  · subst hji
    rw [List.getElem_set_self]
    obtain ⟨p1, p2, p3, p4⟩ := At4.filled hB (show j * 4 + 4 ≤ k * 4 by omega) n1 n2 a1 a2 k1 c1 k2 c2
    exact ⟨_, _, _, _, _, _, _, _, p1, p2, p3, p4, hr.offL hB.no hG⟩
  · rw [List.getElem_set_ne (by omega)]
    obtain ⟨m1, d1, e1, f1, m2, d2, e2, f2, p1, p2, p3, p4, pA⟩ := (h1.at j hj).1
    rw [Nat.zero_add] at p1 p2 p3 p4
    obtain ⟨q1, q2, q3, q4⟩ := At4.beside (o' := i * 4) (⟨p1, p2, p3, p4⟩ : At4 W g (j * 4) _ _ _ _) (by omega) (.bool n1) (.slice a1 k1 c1) (.bool n2) (.slice a2 k2 c2)
    exact ⟨m1, d1, e1, f1, m2, d2, e2, f2, q1, q2, q3, q4, pA.offL hB.no hG⟩
theorem QBlk.other {W W' : World} {g g' k : Nat} (h : QBlk W g k) (hg : W.grownBy W' (some g')) (hne : g ≠ g') : QBlk W' g k := by
  have hl := h.lt
  obtain ⟨cs, h1, h2⟩ := h
  exact ⟨cs, (hg.block g hl (by simpa using hne)).trans h1, h2⟩
theorem fillAt_eq (W : World) (g o : Nat) (p q r s : Value) : (((W.setCell ⟨g, o, none⟩ p).setCell ⟨g, o + 1, none⟩ q).setCell ⟨g, o + 2, none⟩ r).setCell ⟨g, o + 3, none⟩ s = fillAt W g o p q r s := rfl
theorem dot_unit (R : List Rat) (k : Nat) (h : k < R.length) : dotR R ((List.replicate R.length 0).set k 1) = R[k] := by
  induction R generalizing k with
  | nil => simp at h
  | cons a R ih =>
    cases k with
    | zero =>
      show a * 1 + dotR R (List.replicate R.length 0) = a
      rw [dotR_comm, dot_zeros, Rat.add_zero, Rat.mul_one]
    | succ k =>
      simp at h
      show a * 0 + dotR R ((List.replicate R.length 0).set k 1) = R[k]
      rw [ih k h, Rat.mul_zero, Rat.zero_add]
theorem times_unit {M : List (List Rat)} {n k : Nat} (hw : ∀ R ∈ M, R.length = n) (hk : k < n) : timesR M ((List.replicate n 0).set k 1) = colR M k := by
  unfold timesR colR
  apply List.map_congr_left
  intro R hR
  have hl := hw R hR
  subst hl
  rw [dot_unit R k hk, List.getD_eq_getElem?_getD, List.getElem?_eq_getElem hk]
  rfl
theorem left_unit {M : List (List Rat)} {n i : Nat} (hw : ∀ R ∈ M, R.length = n) (hi : i < M.length) : timesR (cols M n) ((List.replicate M.length 0).set i 1) = M[i] := by
  have hl : M[i].length = n := hw _ (List.getElem_mem _)
  apply List.ext_getElem
  · rw [timesR_len, cols_len, hl]
  · intro c h1 h2
    have hc : c < n := by omega
    have hcl : (colR M c).length = M.length := by simp [colR]
    have e := dot_unit (colR M c) i (by omega)
    have e2 : List.replicate M.length (0 : Rat) = List.replicate (colR M c).length 0 := by rw [hcl]
    simp only [timesR, cols, List.getElem_map, List.getElem_range]
    rw [e2, e]
    simp only [colR, List.getElem_map]
    rw [List.getD_eq_getElem?_getD, List.getElem?_eq_getElem h2]
    rfl

theorem keepU {w W : World} {b o b' o' b2 o2 : Nat} {p q r s c p' q' r' s' : Value} (h : At4 w b o p q r s) (hl : b < w.heap.size) (hc : w.cell? ⟨b2, o2, none⟩ = some c) (hl2 : b2 < w.heap.size) (h' : At4 w b' o' p' q' r' s') (hl' : b' < w.heap.size) (hb : Below w.heap.size w W) :
    W.cell? ⟨b, o, none⟩ = some p ∧ W.cell? ⟨b, o + 1, none⟩ = some q ∧ W.cell? ⟨b, o + 2, none⟩ = some r ∧ W.cell? ⟨b, o + 3, none⟩ = some s ∧ W.cell? ⟨b2, o2, none⟩ = some c ∧ W.cell? ⟨b', o', none⟩ = some p' ∧ W.cell? ⟨b', o' + 1, none⟩ = some q' ∧ W.cell? ⟨b', o' + 2, none⟩ = some r' ∧ W.cell? ⟨b', o' + 3, none⟩ = some s' := by
  obtain ⟨h1, h2, h3, h4⟩ := h.below hl hb
  obtain ⟨h5, h6, h7, h8⟩ := h'.below hl' hb
  exact ⟨h1, h2, h3, h4, (bcells hb _ _ hl2).trans hc, h5, h6, h7, h8⟩

end Go.Proofs.YtmnlggmdomcajaaGreat
