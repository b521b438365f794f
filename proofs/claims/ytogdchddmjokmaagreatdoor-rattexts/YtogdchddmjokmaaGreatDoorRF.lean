/-
  What came in, opened: a number of the law's arguments.
  What came in, opened: a quotient of the law's arguments.
-/
import Derived.Test.YtogdchddmjokmaaGreatDoorWA
import Derived.ProofKit
import Derived.OpenShut
import Derived.ShutString
import Derived.ChangeOld
import Derived.Lib.SmallJoins

namespace Go.Proofs.YtogdchddmjokmaaGreatDoor
open Go.ChangeShapes Go.WideShapes Go.ChangeAt Go.RowKit Go.Joins Lm
open Go.ChangeMaps (open_string shut_string)
set_option linter.unusedVariables false
set_option maxRecDepth 100000
set_option linter.unusedSimpArgs false

theorem Tryz.own : ownKnob Tryz.prog.godebug = none := by kernel_rfl
theorem Tryz.laidOut : laidOutB Tryz.prog = true := by kernel_rfl
theorem Tryz.cellsNum : Tryz.prog.cellsOf 24 = 2 := by kernel_rfl

theorem open_num {H : Type} {enc : TypeId × Value → H} {W : World} {base : Nat} {v : Value} {d : DataW H} {p : List MemPlace}
    (hv : Value.okWide Tryz.prog W .any base 24 v) (h : DataW.Trod enc Tryz.prog W 0 (fun _ => true) true 24 v d p) :
    ∃ neg ao cap l, v = .agg #[.bool neg, .slice ao l.length cap] ∧ SlAt W ao cap l := by
  obtain ⟨c0, c1, y0, y1, m, rfl, rfl, rfl, hy0, hy1⟩ := open_agg2 Tryz.underlying24 (by kernel_rfl) Tryz.cellsNum hv h
  obtain ⟨neg, e0, -⟩ := DataW.trod_bool Tryz.underlying4 hy0
  simp at e0
  subst e0
  rcases open_ints Tryz.underlying22 Tryz.underlying55 (by kernel_rfl) hy1 with ⟨hcs, _⟩ | ⟨x, len, cap, zs, hcs, _, hl, hm, hz, _, hcell, hwz⟩
  · simp at hcs
    subst hcs
    exact ⟨neg, none, 0, [], rfl, ok_nil, by simp, by unfold maxLen; omega, .inl ⟨rfl, fun _ => rfl⟩⟩
  · simp at hcs
    subst hcs
    have hr := range_u32 hwz
    have hz' : zs.length = cap := by simpa using hz
    have hll : ((zs.take len).map Int.toNat).length = len := by simp; omega
    refine ⟨neg, some x, cap, (zs.take len).map Int.toNat, by rw [hll], ?_, by omega, hm, ?_⟩
    · intro y hy
      obtain ⟨a, ha, rfl⟩ := List.mem_map.1 hy
      obtain ⟨j, hj, rfl⟩ := List.getElem_of_mem (List.mem_of_mem_take ha)
      have := hr j
      rw [List.getElem?_eq_getElem hj] at this
      simp at this
      omega
    · by_cases h0 : len = 0
      · exact .inl ⟨by omega, fun e => by simp at e⟩
      · obtain ⟨b, off, rfl, hc⟩ := ints_at hcell (by omega)
        have hb := World.block_lt_of_cell? W ⟨b, off + 0, none⟩ (hc 0 (by omega))
        refine .inr ⟨b, off, rfl, hb, fun i hi => ?_⟩
        rw [hll] at hi
        rw [hc i (by omega)]
        have := hr i
        rw [List.getElem?_eq_getElem (by omega)] at this
        simp at this
        simp [List.getD_eq_getElem?_getD, show i < zs.length by omega, hi]
        omega

end Go.Proofs.YtogdchddmjokmaaGreatDoor

namespace Go.Proofs.YtogdchddmjokmaaGreatDoor
open Go.ChangeShapes Go.WideShapes Go.ChangeAt Go.RowKit Go.Joins Lm
set_option linter.unusedVariables false
set_option maxRecDepth 100000
set_option linter.unusedSimpArgs false

theorem Tryz.cellsRat : Tryz.prog.cellsOf 26 = 4 := by kernel_rfl
theorem Tryz.cellsBool : Tryz.prog.cellsOf 4 = 1 := by kernel_rfl
theorem Tryz.cellsSl : Tryz.prog.cellsOf 22 = 1 := by kernel_rfl

theorem num_cells {H : Type} {enc : TypeId × Value → H} {W : World} {fuel : Nat} {c0 c1 : Value} {x : DataW H × List MemPlace}
    (h : DataW.trod enc Tryz.prog W 0 (fun _ => true) true fuel 24 [c0, c1] = some x) :
    ∃ neg ao cap l, c0 = .bool neg ∧ c1 = .slice ao l.length cap ∧ SlAt W ao cap l := by
  obtain ⟨y0, y1, n, -, -, h0, h1⟩ := trod_struct2 Tryz.underlying24 h
  simp only [Tryz.cellsBool, Tryz.cellsSl, List.drop_zero, List.take_succ_cons, List.take_zero, List.drop_succ_cons] at h0 h1
  obtain ⟨neg, e0, -⟩ := DataW.trod_bool Tryz.underlying4 h0
  simp at e0
  subst e0
  rcases open_ints Tryz.underlying22 Tryz.underlying55 (by kernel_rfl) h1 with ⟨hcs, _⟩ | ⟨x, len, cap, zs, hcs, _, hl, hm, hz, _, hcell, hwz⟩
  · simp at hcs
    subst hcs
    exact ⟨neg, none, 0, [], rfl, rfl, ok_nil, by simp, by unfold maxLen; omega, .inl ⟨rfl, fun _ => rfl⟩⟩
  · simp at hcs
    subst hcs
    have hr := range_u32 hwz
    have hz' : zs.length = cap := by simpa using hz
    have hll : ((zs.take len).map Int.toNat).length = len := by simp; omega
    refine ⟨neg, some x, cap, (zs.take len).map Int.toNat, rfl, by rw [hll], ?_, by omega, hm, ?_⟩
    · intro y hy
      obtain ⟨a, ha, rfl⟩ := List.mem_map.1 hy
      obtain ⟨j, hj, rfl⟩ := List.getElem_of_mem (List.mem_of_mem_take ha)
      have := hr j
      rw [List.getElem?_eq_getElem hj] at this
      simp at this
      omega
    · by_cases h0 : len = 0
      · exact .inl ⟨by omega, fun e => by simp at e⟩
      · obtain ⟨b, off, rfl, hc⟩ := ints_at hcell (by omega)
        have hb := World.block_lt_of_cell? W ⟨b, off + 0, none⟩ (hc 0 (by omega))
        refine .inr ⟨b, off, rfl, hb, fun i hi => ?_⟩
        rw [hll] at hi
        rw [hc i (by omega)]
        have := hr i
        rw [List.getElem?_eq_getElem (by omega)] at this
        simp at this
        simp [List.getD_eq_getElem?_getD, show i < zs.length by omega, hi]
        omega

theorem open_rat {H : Type} {enc : TypeId × Value → H} {W : World} {base : Nat} {v : Value} {d : DataW H} {p : List MemPlace}
    (hv : Value.okWide Tryz.prog W .any base 26 v) (h : DataW.Trod enc Tryz.prog W 0 (fun _ => true) true 26 v d p) :
    ∃ n1 a1 c1 l1 n2 a2 c2 l2, v = .agg #[.bool n1, .slice a1 l1.length c1, .bool n2, .slice a2 l2.length c2] ∧ SlAt W a1 c1 l1 ∧ SlAt W a2 c2 l2 := by
  obtain ⟨cs, rfl, hsz⟩ := okWide_struct Tryz.underlying26 hv
  rw [Tryz.cellsRat] at hsz
  obtain ⟨q0, q1, q2, q3, rfl⟩ : ∃ q0 q1 q2 q3, cs = #[q0, q1, q2, q3] := by
    match cs, hsz with
    | ⟨[q0, q1, q2, q3]⟩, _ => exact ⟨q0, q1, q2, q3, rfl⟩
  obtain ⟨fuel, hf⟩ := h
  obtain ⟨y0, y1, n, -, -, h0, h1⟩ := trod_struct2 Tryz.underlying26 hf
  simp only [Value.cells, Tryz.cellsNum, List.drop_zero, List.take_succ_cons, List.take_zero, List.drop_succ_cons] at h0 h1
  obtain ⟨n1, a1, c1, l1, rfl, rfl, s1⟩ := num_cells h0
  obtain ⟨n2, a2, c2, l2, rfl, rfl, s2⟩ := num_cells h1
  exact ⟨n1, a1, c1, l1, n2, a2, c2, l2, rfl, s1, s2⟩

end Go.Proofs.YtogdchddmjokmaaGreatDoor
