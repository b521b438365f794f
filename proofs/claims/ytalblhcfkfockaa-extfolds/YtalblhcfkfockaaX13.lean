/-
  Walks: the law ExtFolds, for whatever came in; slices of quotients with ends, opened.
-/
import Derived.Test.YtalblhcfkfockaaX12
import Derived.Test.YtalblhcfkfockaaXFrame
import Derived.Deep.Slices
namespace Go.Proofs.Ytalblhcfkfockaa
open Go.ChangeShapes Go.WideShapes Go.ChangeAt Go.RowKit Go.Joins Lm
set_option linter.unusedSimpArgs false
set_option linter.unusedVariables false
set_option maxRecDepth 100000

theorem exListE {α : Type} {P : Nat → α → Prop} : ∀ n : Nat, (∀ i, i < n → ∃ x, P i x) → ∃ L : List α, L.length = n ∧ ∀ i (h : i < L.length), P i L[i]
  | 0, _ => ⟨[], rfl, fun i h => by simp at h⟩
  | n + 1, h => by
    obtain ⟨L, h1, h2⟩ := exListE n (fun i hi => h i (by omega))
    obtain ⟨x, hx⟩ := h n (by omega)
    refine ⟨L ++ [x], by simp [h1], fun i hi => ?_⟩
    by_cases hl : i < L.length
    · rw [List.getElem_append_left hl]; exact h2 i hl
    · simp at hi
      have : i = n := by omega
      subst this
      rw [List.getElem_append_right (by omega)]
      simpa [h1] using hx
theorem ext_cells {H : Type} {enc : TypeId × Value → H} {W : World} {fuel : Nat} {q q0 q1 q2 q3 : Value} {x : DataW H × List MemPlace}
    (h : DataW.trod enc Try.prog W 0 (fun _ => true) true fuel 31 [q, q0, q1, q2, q3] = some x) :
    ∃ k n1 a1 c1 l1 n2 a2 c2 l2, q = .int .i64 k ∧ q0 = .bool n1 ∧ q1 = .slice a1 l1.length c1 ∧ q2 = .bool n2 ∧ q3 = .slice a2 l2.length c2 ∧ SlAt W a1 c1 l1 ∧ SlAt W a2 c2 l2 := by
  obtain ⟨y0, y1, n, -, -, h0, h1⟩ := trod_struct2 Try.underlying31 h
  simp only [Try.cellsInt, Try.cellsRat, List.drop_zero, List.take_succ_cons, List.take_zero, List.drop_succ_cons] at h0 h1
  obtain ⟨k, e0, -⟩ := DataW.trod_int Try.underlying3 h0
  simp at e0
  subst e0
  obtain ⟨n1, a1, c1, l1, n2, a2, c2, l2, rfl, rfl, rfl, rfl, s1, s2⟩ := rat_cells h1
  exact ⟨k, n1, a1, c1, l1, n2, a2, c2, l2, rfl, rfl, rfl, rfl, rfl, s1, s2⟩
theorem add_plainE (b o j : Nat) : (⟨b, o, none⟩ : Addr).add j = ⟨b, o + j, none⟩ := by
  unfold Addr.add
  split <;> simp_all
theorem exts_cells {H : Type} {enc : TypeId × Value → H} {W : World} {fuel : Nat} {c0 : Value} {x : DataW H × List MemPlace}
    (h : DataW.trod enc Try.prog W 0 (fun _ => true) true fuel 22 [c0] = some x) :
    ∃ ao k cap L, c0 = .slice ao k cap ∧ k = L.length ∧ RawE W ao cap L := by
  rcases Go.Deep.open_slice Try.underlying22 h with ⟨hcs, _⟩ | ⟨a, len, cap, m, n, D, Pl, hcs, _, hl, hm, hmm, _, hx⟩
  · simp at hcs
    subst hcs
    exact ⟨none, 0, 0, [], rfl, rfl, by simp, by unfold maxLen; omega, .inl rfl⟩
  · simp at hcs
    subst hcs
    simp only [if_true] at hmm
    obtain ⟨b, off, spot⟩ := a
    have hsp : 0 < len → spot = none := by
      intro hp
      obtain ⟨cs', h1, h2⟩ := hx 0 (by omega)
      rw [Try.cellsExt] at h1
      obtain ⟨_, h3, h4⟩ := World.cells?_some h1
      have e0 := h4 0 (by omega)
      rw [List.getElem?_eq_getElem (by omega)] at e0
      simpa [Addr.add] using World.cell?_spot e0
    have hel : ∀ i, i < len → ∃ q : ERaw, spot = none ∧ b < W.heap.size ∧ EAt W b (off + i * 5) q := by
      intro i hi
      obtain ⟨cs', h1, h2⟩ := hx i (by omega)
      rw [Try.cellsExt] at h1
      obtain ⟨_, h3, h4⟩ := World.cells?_some h1
      obtain ⟨q, q0, q1, q2, q3, rfl⟩ : ∃ q q0 q1 q2 q3, cs' = [q, q0, q1, q2, q3] := by
        match cs', h3 with
        | [q, q0, q1, q2, q3], _ => exact ⟨q, q0, q1, q2, q3, rfl⟩
      obtain ⟨k, n1, a1, c1, l1, n2, a2, c2, l2, rfl, rfl, rfl, rfl, rfl, s1, s2⟩ := ext_cells h2
      have e0 := h4 0 (by omega)
      have e1 := h4 1 (by omega)
      have e2 := h4 2 (by omega)
      have e3 := h4 3 (by omega)
      have e4 := h4 4 (by omega)
      have hs : spot = none := hsp (by omega)
      subst hs
      simp only [add_plainE, List.getElem?_cons_zero, List.getElem?_cons_succ, Nat.add_zero] at e0 e1 e2 e3 e4
      exact ⟨⟨k, n1, l1, n2, l2⟩, rfl, World.block_lt_of_cell? W ⟨b, off + i * 5, none⟩ e0, a1, c1, a2, c2, ⟨e0, e1, e2, e3, e4⟩, s1, s2⟩
    obtain ⟨L, hL, hP⟩ := exListE len hel
    refine ⟨some ⟨b, off, spot⟩, len, cap, L, rfl, hL.symm, by omega, hm, ?_⟩
    by_cases h0 : L.length = 0
    · exact .inl h0
    · obtain ⟨rfl, hb, -⟩ := hP 0 (by omega)
      exact .inr ⟨b, off, rfl, hb, fun i hi => (hP i hi).2.2⟩
theorem open_exts {H : Type} {enc : TypeId × Value → H} {W : World} {base : Nat} {v : Value} {d : DataW H} {p : List MemPlace}
    (hv : Value.okWide Try.prog W .any base 22 v) (h : DataW.Trod enc Try.prog W 0 (fun _ => true) true 22 v d p) :
    ∃ ao k cap L, v = .slice ao k cap ∧ k = L.length ∧ RawE W ao cap L := by
  obtain ⟨a, len, cap, rfl⟩ := okWide_slice Try.underlying22 hv
  obtain ⟨fuel, hf⟩ := h
  exact exts_cells hf

set_option maxHeartbeats 3200000 in
theorem extFolds_any (w : World) (ao : Option Addr) (k cap : Nat) (L : List ERaw) (hk : k = L.length) (hR : RawE w ao cap L) :
    Calls Try.prog 3 #[.slice ao k cap] w fun e w' => e = .returned (.bool true) ∧ Below w.heap.size w w' := by
  obtain ⟨r1, r2, r3⟩ := hR
  unfold maxLen at r2
  by_cases h0 : L.length = 0
  · rw [h0] at hk
    subst hk
    go_enter Try.func3, Try.ntmps3
    go_wp2_with fail
    refine (awake3_any _).mono ?_
    rintro e w6 ⟨rfl, hbm⟩
    go_wp2
    go_ret
    exact ⟨rfl, hbm⟩
  · obtain ⟨b, off, rfl, hb, hE⟩ := r3.resolve_left h0
    by_cases h40 : 40 < L.length
    · have i1 : (40 : Int) < (k : Int) := by omega
      have i2 : ((k : Int) == 0) = false := by simp; omega
      clear hE r3
      go_enter Try.func3, Try.ntmps3
      go_wp2_with fail
      refine (awake3_any _).mono ?_
      rintro e w6 ⟨rfl, hbm⟩
      go_wp2
      go_ret
      exact ⟨rfl, hbm⟩
    · have hlen : ∀ i (h : i < L.length), L[i].l1.length ≤ 9223372036854775807 ∧ L[i].l2.length ≤ 9223372036854775807 := fun i h => by
        obtain ⟨a1, c1, a2, c2, -, s1, s2⟩ := hE i h
        exact ⟨slat_len s1, slat_len s2⟩
      obtain ⟨G, hGd⟩ : ∃ G, G = L.map (fun q : ERaw => (q.l1.length, q.l2.length)) := ⟨_, rfl⟩
      have hGL : G.length = L.length := by rw [hGd, List.length_map]
      have hGe : ∀ i (h : i < L.length), G[i]'(by omega) = (L[i].l1.length, L[i].l2.length) := fun i h => by subst hGd; simp
      have hGC : ∀ W, Below w.heap.size w W → Calls Try.prog 8 #[.slice (some ⟨b, off, none⟩) k cap] W fun e w' => e = .returned (.bool (greatR G)) ∧ Below W.heap.size W w' := fun W hW =>
        great3o_any W b off cap G k (by omega) (by omega) (by omega) (Nat.lt_of_lt_of_le hb hW.size) (fun i h => by rw [hGe i (by omega)]; exact hlen i (by omega)) (fun i h => by
          obtain ⟨a1, c1, a2, c2, hA, -⟩ := hE i (by omega)
          obtain ⟨e0, e1, e2, e3, e4⟩ := hA.below hb hW
          rw [hGe i (by omega)]
          exact ⟨_, a1, c1, _, a2, c2, e1, e2, e3, e4⟩)
      cases hg : greatR G
      · have hsm : ∀ i (h : i < L.length), L[i].l1.length ≤ 6 ∧ L[i].l2.length ≤ 6 := fun i h => by
          have := great_small hg (G[i]'(by omega)) (List.getElem_mem _)
          rw [hGe i h] at this
          exact this
        refine folds_main w b off cap (L.map ERaw.x) k (by rw [List.length_map, hk]) (by omega) (by omega) (by omega) r2 hb (fun i h => ?_) (fun x hx => ?_) (fun W hW => by have := hGC W hW; rw [hg] at this; exact this)
        · have hi : i < L.length := by simpa using h
          obtain ⟨a1, c1, a2, c2, hA, hEa⟩ := (hE i hi).arg (hsm i hi).1 (hsm i hi).2
          rw [List.getElem_map]
          exact ⟨_, _, a1, _, c1, _, a2, _, c2, hA, hEa⟩
        · obtain ⟨q, hq, rfl⟩ := List.mem_map.1 hx
          obtain ⟨i, hi, rfl⟩ := List.getElem_of_mem hq
          obtain ⟨a1, c1, a2, c2, -, s1, s2⟩ := hE i hi
          exact eb_raw _ 6 (by decide) s1.1 s2.1 (hsm i hi).1 (hsm i hi).2
      · have i1 : ¬ (40 : Int) < (k : Int) := by omega
        have i2 : ((k : Int) == 0) = false := by simp; omega
        have HC := hid (hGC w (Below.refl _ _))
        rw [hg] at HC
        clear hGC hGe hlen hE r3 hg hGL hGd hk h0 h40
        go_enter Try.func3, Try.ntmps3
        go_wp2_with fail
        refine HC.out.mono ?_
        rintro e w5 ⟨rfl, hb5⟩
        go_wp2_with fail
        refine (awake3_any _).mono ?_
        rintro e w6 ⟨rfl, hbm⟩
        go_wp2
        go_ret
        exact ⟨rfl, below_call hb5 hbm hb5.size⟩

end Go.Proofs.Ytalblhcfkfockaa
