/-
  What came in, opened: rows and tables of quotients of the law's arguments.
-/
import Derived.Test.YtmnlggmdomcajaaGreatVA
import Derived.Test.YtmnlggmdomcajaaGreatXFrame
import Derived.Deep.Slices
namespace Go.Proofs.YtmnlggmdomcajaaGreat
open Go.ChangeShapes Go.WideShapes Go.ChangeAt Go.RowKit Go.Joins Lm
set_option linter.unusedVariables false
set_option maxRecDepth 100000
set_option linter.unusedSimpArgs false

theorem Tryz.cellsRow : Tryz.prog.cellsOf 41 = 1 := by kernel_rfl

theorem exList {α : Type} {P : Nat → α → Prop} : ∀ n : Nat, (∀ i, i < n → ∃ x, P i x) → ∃ L : List α, L.length = n ∧ ∀ i (h : i < L.length), P i L[i]
  | 0, _ => ⟨[], rfl, fun i h => by simp at h⟩
  | n + 1, h => by
    obtain ⟨L, h1, h2⟩ := exList n (fun i hi => h i (by omega))
    obtain ⟨x, hx⟩ := h n (by omega)
    refine ⟨L ++ [x], by simp [h1], fun i hi => ?_⟩
    by_cases hl : i < L.length
    · rw [List.getElem_append_left hl]; exact h2 i hl
    · simp at hi
      have : i = n := by omega
      subst this
      rw [List.getElem_append_right (by omega)]
      simpa [h1] using hx

theorem row_cells {H : Type} {enc : TypeId × Value → H} {W : World} {fuel : Nat} {c0 : Value} {x : DataW H × List MemPlace}
    (h : DataW.trod enc Tryz.prog W 0 (fun _ => true) true fuel 41 [c0] = some x) :
    ∃ ao k cap L, c0 = .slice ao k cap ∧ k = L.length ∧ RawRow W ao cap L := by
  rcases Go.Deep.open_slice Tryz.underlying41 h with ⟨hcs, _⟩ | ⟨a, len, cap, m, n, D, Pl, hcs, _, hl, hm, hmm, _, hx⟩
  · simp at hcs
    subst hcs
    exact ⟨none, 0, 0, [], rfl, rfl, by simp, by unfold maxLen; omega, .inl rfl⟩
  · simp at hcs
    subst hcs
    simp only [if_true] at hmm
    obtain ⟨b, off, spot⟩ := a
    have hsp : 0 < len → spot = none := by
      intro hp
      obtain ⟨cs', h1, h2⟩ := hx 0 (by omega)
      rw [Tryz.cellsRat] at h1
      obtain ⟨_, h3, h4⟩ := World.cells?_some h1
      have e0 := h4 0 (by omega)
      rw [List.getElem?_eq_getElem (by omega)] at e0
      simpa [Addr.add] using World.cell?_spot e0
    have hel : ∀ i, i < len → ∃ q : RQ, spot = none ∧ b < W.heap.size ∧ RawAt W b (off + i * 4) q := by
      intro i hi
      obtain ⟨cs', h1, h2⟩ := hx i (by omega)
      rw [Tryz.cellsRat] at h1
      obtain ⟨_, h3, h4⟩ := World.cells?_some h1
      obtain ⟨q0, q1, q2, q3, rfl⟩ : ∃ q0 q1 q2 q3, cs' = [q0, q1, q2, q3] := by
        match cs', h3 with
        | [q0, q1, q2, q3], _ => exact ⟨q0, q1, q2, q3, rfl⟩
      obtain ⟨n1, a1, c1, l1, n2, a2, c2, l2, rfl, rfl, rfl, rfl, s1, s2⟩ := rat_cells h2
      have e0 := h4 0 (by omega)
      have e1 := h4 1 (by omega)
      have e2 := h4 2 (by omega)
      have e3 := h4 3 (by omega)
      have hs : spot = none := hsp (by omega)
      subst hs
      simp only [add_plain, List.getElem?_cons_zero, List.getElem?_cons_succ, Nat.add_zero] at e0 e1 e2 e3
      exact ⟨⟨n1, l1, n2, l2⟩, rfl, World.block_lt_of_cell? W ⟨b, off + i * 4, none⟩ e0, a1, c1, a2, c2, ⟨e0, e1, e2, e3⟩, s1, s2⟩
    obtain ⟨L, hL, hP⟩ := exList len hel
    refine ⟨some ⟨b, off, spot⟩, len, cap, L, rfl, hL.symm, by omega, hm, ?_⟩
    by_cases h0 : L.length = 0
    · exact .inl h0
    · obtain ⟨rfl, hb, -⟩ := hP 0 (by omega)
      exact .inr ⟨b, off, rfl, hb, fun i hi => (hP i hi).2.2⟩
theorem open_row {H : Type} {enc : TypeId × Value → H} {W : World} {base : Nat} {v : Value} {d : DataW H} {p : List MemPlace}
    (hv : Value.okWide Tryz.prog W .any base 41 v) (h : DataW.Trod enc Tryz.prog W 0 (fun _ => true) true 41 v d p) :
    ∃ ao k cap L, v = .slice ao k cap ∧ k = L.length ∧ RawRow W ao cap L := by
  obtain ⟨a, len, cap, rfl⟩ := okWide_slice Tryz.underlying41 hv
  obtain ⟨fuel, hf⟩ := h
  exact row_cells hf
theorem open_tab {H : Type} {enc : TypeId × Value → H} {W : World} {base : Nat} {v : Value} {d : DataW H} {p : List MemPlace}
    (hv : Value.okWide Tryz.prog W .any base 40 v) (h : DataW.Trod enc Tryz.prog W 0 (fun _ => true) true 40 v d p) :
    ∃ ao k cap M, v = .slice ao k cap ∧ k = M.length ∧ RawTab W ao cap M := by
  obtain ⟨a, len, cap, rfl⟩ := okWide_slice Tryz.underlying40 hv
  obtain ⟨fuel, hf⟩ := h
  rcases Go.Deep.open_slice1 Tryz.underlying40 Tryz.cellsRow hf with ⟨hcs, _⟩ | ⟨a', len', cap', m, n, V, D, Pl, hcs, _, hl, hm, hmm, _, hx⟩
  · simp [Value.cells] at hcs
    obtain ⟨rfl, rfl, rfl⟩ := hcs
    exact ⟨none, 0, 0, [], rfl, rfl, by simp, by unfold maxLen; omega, .inl rfl⟩
  · simp [Value.cells] at hcs
    obtain ⟨rfl, rfl, rfl⟩ := hcs
    simp only [if_true] at hmm
    obtain ⟨b, off, spot⟩ := a'
    have hsp : 0 < len → spot = none := by
      intro hp
      obtain ⟨h1, h2⟩ := hx 0 (by omega)
      simpa [Addr.add] using World.cell?_spot h1
    have hel : ∀ i, i < len → ∃ L : List RQ, spot = none ∧ b < W.heap.size ∧ ∃ a k c, W.cell? ⟨b, off + i, none⟩ = some (.slice a k c) ∧ k = L.length ∧ RawRow W a c L := by
      intro i hi
      obtain ⟨h1, h2⟩ := hx i (by omega)
      obtain ⟨ao, k, cp, L, e, hk, hR⟩ := row_cells h2
      rw [e] at h1
      have hs : spot = none := hsp (by omega)
      subst hs
      simp only [add_plain] at h1
      exact ⟨L, rfl, World.block_lt_of_cell? W ⟨b, off + i, none⟩ h1, ao, k, cp, h1, hk, hR⟩
    obtain ⟨M, hM, hP⟩ := exList len hel
    refine ⟨some ⟨b, off, spot⟩, len, cap, M, rfl, hM.symm, by omega, hm, ?_⟩
    by_cases h0 : M.length = 0
    · exact .inl h0
    · obtain ⟨rfl, hb, -⟩ := hP 0 (by omega)
      exact .inr ⟨b, off, rfl, hb, fun i hi => (hP i hi).2.2⟩

end Go.Proofs.YtmnlggmdomcajaaGreat
