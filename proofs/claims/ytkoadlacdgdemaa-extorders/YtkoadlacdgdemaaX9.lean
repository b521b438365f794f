/-
  Walks: the law ExtOrders.
-/
import Derived.Test.YtkoadlacdgdemaaXB
namespace Go.Proofs.Ytkoadlacdgdemaa
open Go.RowKit Lm
set_option linter.unusedSimpArgs false
set_option linter.unusedVariables false
set_option maxRecDepth 100000

theorem great_x3 (W : World) (g : Nat) (k1 k2 k3 : Int) (n1 n2 n3 n4 n5 n6 : Bool) (a1 a2 a3 a4 a5 a6 : Option Addr) (L1 c1 L2 c2 L3 c3 L4 c4 L5 c5 L6 c6 : Nat) (hg : W.heap.size = g) (h1 : L1 ≤ 9223372036854775807) (h2 : L2 ≤ 9223372036854775807) (h3 : L3 ≤ 9223372036854775807) (h4 : L4 ≤ 9223372036854775807) (h5 : L5 ≤ 9223372036854775807) (h6 : L6 ≤ 9223372036854775807) :
    Calls Try.prog 17 #[.slice (some ⟨g, 0, none⟩) 3 3] (W.alloc (.cells #[.int .i64 k1, .bool n1, .slice a1 L1 c1, .bool n2, .slice a2 L2 c2, .int .i64 k2, .bool n3, .slice a3 L3 c3, .bool n4, .slice a4 L4 c4, .int .i64 k3, .bool n5, .slice a5 L5 c5, .bool n6, .slice a6 L6 c6] 39)) fun e w' => e = .returned (.bool (greatR [(L1, L2), (L3, L4), (L5, L6)])) ∧ Below (W.alloc (.cells #[.int .i64 k1, .bool n1, .slice a1 L1 c1, .bool n2, .slice a2 L2 c2, .int .i64 k2, .bool n3, .slice a3 L3 c3, .bool n4, .slice a4 L4 c4, .int .i64 k3, .bool n5, .slice a5 L5 c5, .bool n6, .slice a6 L6 c6] 39)).heap.size (W.alloc (.cells #[.int .i64 k1, .bool n1, .slice a1 L1 c1, .bool n2, .slice a2 L2 c2, .int .i64 k2, .bool n3, .slice a3 L3 c3, .bool n4, .slice a4 L4 c4, .int .i64 k3, .bool n5, .slice a5 L5 c5, .bool n6, .slice a6 L6 c6] 39)) w' := by
  subst hg
  have hh : (W.alloc (.cells #[.int .i64 k1, .bool n1, .slice a1 L1 c1, .bool n2, .slice a2 L2 c2, .int .i64 k2, .bool n3, .slice a3 L3 c3, .bool n4, .slice a4 L4 c4, .int .i64 k3, .bool n5, .slice a5 L5 c5, .bool n6, .slice a6 L6 c6] 39)).heap[W.heap.size]? = some (.cells #[.int .i64 k1, .bool n1, .slice a1 L1 c1, .bool n2, .slice a2 L2 c2, .int .i64 k2, .bool n3, .slice a3 L3 c3, .bool n4, .slice a4 L4 c4, .int .i64 k3, .bool n5, .slice a5 L5 c5, .bool n6, .slice a6 L6 c6] 39 (0, 0)) := heap_alloc_new W _
  refine great3_any _ W.heap.size 3 [(L1, L2), (L3, L4), (L5, L6)] (by simp) (by simp) (fun i hi => ?_) (fun i hi => ?_)
  · simp at hi
    rcases (show i = 0 ∨ i = 1 ∨ i = 2 by omega) with rfl | rfl | rfl
    · exact ⟨h1, h2⟩
    · exact ⟨h3, h4⟩
    · exact ⟨h5, h6⟩
  · simp at hi
    rcases (show i = 0 ∨ i = 1 ∨ i = 2 by omega) with rfl | rfl | rfl
    · exact ⟨n1, a1, c1, n2, a2, c2, by rw [cell_of_row _ _ _ _ _ _ hh]; rfl, by rw [cell_of_row _ _ _ _ _ _ hh]; rfl, by rw [cell_of_row _ _ _ _ _ _ hh]; rfl, by rw [cell_of_row _ _ _ _ _ _ hh]; rfl⟩
    · exact ⟨n3, a3, c3, n4, a4, c4, by rw [cell_of_row _ _ _ _ _ _ hh]; rfl, by rw [cell_of_row _ _ _ _ _ _ hh]; rfl, by rw [cell_of_row _ _ _ _ _ _ hh]; rfl, by rw [cell_of_row _ _ _ _ _ _ hh]; rfl⟩
    · exact ⟨n5, a5, c5, n6, a6, c6, by rw [cell_of_row _ _ _ _ _ _ hh]; rfl, by rw [cell_of_row _ _ _ _ _ _ hh]; rfl, by rw [cell_of_row _ _ _ _ _ _ hh]; rfl, by rw [cell_of_row _ _ _ _ _ _ hh]; rfl⟩

section
variable {U W W' : World} {KR : List (Value × Nat × Rat)} {KE KF : List (Value × Nat × EX)}
theorem EArg.off5 {v : Value} {n : Nat} {x : EX} {g k1 d1 k2 d2 : Nat} {z : Int} {a1 a2 : Option Addr} {b1 b2 : Bool} (h : EArg W v n x) (hg : Box5 W g (.int .i64 z) (.bool b1) (.slice a1 k1 d1) (.bool b2) (.slice a2 k2 d2)) (hW : W.grownBy W' (some g)) : EArg W' v n x := by
  obtain ⟨k, n1, p1, c1, l1, n2, p2, c2, l2, e, h1, h2, hr⟩ := h
  exact ⟨k, n1, p1, c1, l1, n2, p2, c2, l2, e, h1.off5 hg hW, h2.off5 hg hW, hr⟩
theorem EF.off5 {v : Value} {n : Nat} {x : EX} {g k1 d1 k2 d2 : Nat} {z : Int} {a1 a2 : Option Addr} {b1 b2 : Bool} (h : EF W v n x) (hg : Box5 W g (.int .i64 z) (.bool b1) (.slice a1 k1 d1) (.bool b2) (.slice a2 k2 d2)) (hW : W.grownBy W' (some g)) : EF W' v n x := by
  obtain ⟨m1, p1, j1, e1, m2, p2, j2, e2, e, h⟩ := h
  exact ⟨m1, p1, j1, e1, m2, p2, j2, e2, e, h.off5 hg hW⟩
/-- A box that is filled; what is old below the base stays. -/
theorem XE.fill {g k1 d1 k2 d2 : Nat} {z : Int} {a1 a2 : Option Addr} {b1 b2 : Bool} (E : XE U W KR KE KF) (hg : Box5 W g (.int .i64 z) (.bool b1) (.slice a1 k1 d1) (.bool b2) (.slice a2 k2 d2)) (h0 : U.heap.size ≤ g) (k p q r s : Value) : XE U (fill5 W g k p q r s) KR KE KF :=
  ⟨fun o ho => (E.r o ho).off5 hg (grow5 _ _ _ _ _ _ _), fun o ho => (E.e o ho).off5 hg (grow5 _ _ _ _ _ _ _), fun o ho => (E.f o ho).off5 hg (grow5 _ _ _ _ _ _ _), below_fill5 E.bl h0 _ _ _ _ _⟩
end

theorem Box5.drewX {w : World} {b : Nat} {k p q r s : Value} (h : Box5 w b k p q r s) : Box5 w.drew b k p q r s := h
section
variable {U W W' V : World} {KR : List (Value × Nat × Rat)} {KE KF : List (Value × Nat × EX)} {u v : Value} {n : Nat} {x y : EX}
theorem xmax_via (E0 : XE U V KR KE KF) (E : XE U W KR KE KF) (hu : (u, n, x) ∈ KE) (hv : (v, n, y) ∈ KE) (hn : n ≤ 10000) : Calls Try.prog 20 #[u, v] W fun e w' => ∃ m1 p1 j1 d1 m2 p2 j2 d2, e = .returned (.agg #[.int .i64 (eK (maxE x y)), .bool m1, .slice p1 j1 d1, .bool m2, .slice p2 j2 d2]) ∧ XE U w' KR ((.agg #[.int .i64 (eK (maxE x y)), .bool m1, .slice p1 j1 d1, .bool m2, .slice p2 j2 d2], 4 * n + 18, maxE x y) :: KE) KF ∧ Below W.heap.size W w' := by
  refine (extMax_any W u v n x y (E.e _ hu) (E.e _ hv) hn).mono ?_
  rintro e w' ⟨m1, p1, j1, d1, m2, p2, j2, d2, rfl, hI, hb⟩
  exact ⟨m1, p1, j1, d1, m2, p2, j2, d2, rfl, (E.step hb).knowE hI.cnt.arg, hb⟩
theorem xmin_via (E0 : XE U V KR KE KF) (E : XE U W KR KE KF) (hu : (u, n, x) ∈ KE) (hv : (v, n, y) ∈ KE) (hn : n ≤ 10000) : Calls Try.prog 21 #[u, v] W fun e w' => ∃ m1 p1 j1 d1 m2 p2 j2 d2, e = .returned (.agg #[.int .i64 (eK (minE x y)), .bool m1, .slice p1 j1 d1, .bool m2, .slice p2 j2 d2]) ∧ XE U w' KR ((.agg #[.int .i64 (eK (minE x y)), .bool m1, .slice p1 j1 d1, .bool m2, .slice p2 j2 d2], 4 * n + 18, minE x y) :: KE) KF ∧ Below W.heap.size W w' := by
  refine (extMin_any W u v n x y (E.e _ hu) (E.e _ hv) hn).mono ?_
  rintro e w' ⟨m1, p1, j1, d1, m2, p2, j2, d2, rfl, hI, hb⟩
  exact ⟨m1, p1, j1, d1, m2, p2, j2, d2, rfl, (E.step hb).knowE hI.cnt.arg, hb⟩
end

def MN (w : World) (PA : World → Prop) (KE : List (Value × Nat × EX)) (x y : EX) (p8 p9 : Value) (wc : World) : Prop :=
  ∃ g8 g9 m1 p1 j1 d1 m2 p2 j2 d2 m3 p3 j3 d3 m4 p4 j4 d4, p8 = .pointer (some ⟨g8, 0, none⟩) ∧ p9 = .pointer (some ⟨g9, 0, none⟩) ∧ Box5 wc g8 (.int .i64 (eK (maxE x y))) (.bool m1) (.slice p1 j1 d1) (.bool m2) (.slice p2 j2 d2) ∧ Box5 wc g9 (.int .i64 (eK (minE x y))) (.bool m3) (.slice p3 j3 d3) (.bool m4) (.slice p4 j4 d4) ∧ PA wc ∧ XE wc wc [] ((.agg #[.int .i64 (eK (minE x y)), .bool m3, .slice p3 j3 d3, .bool m4, .slice p4 j4 d4], 4 * 6 + 18, minE x y) :: (.agg #[.int .i64 (eK (maxE x y)), .bool m1, .slice p1 j1 d1, .bool m2, .slice p2 j2 d2], 4 * 6 + 18, maxE x y) :: KE) [] ∧ Below w.heap.size w wc
section
variable {w U W : World} {PA : World → Prop} {KE : List (Value × Nat × EX)} {x y : EX} {m1 m2 m3 m4 : Bool} {p1 p2 p3 p4 : Option Addr} {j1 d1 j2 d2 j3 d3 j4 d4 : Nat}
theorem mn_aa (hU : Below w.heap.size w U) (hPA : ∀ W', Below U.heap.size U W' → PA W') (E : XE U W [] ((.agg #[.int .i64 (eK (minE x y)), .bool m3, .slice p3 j3 d3, .bool m4, .slice p4 j4 d4], 4 * 6 + 18, minE x y) :: (.agg #[.int .i64 (eK (maxE x y)), .bool m1, .slice p1 j1 d1, .bool m2, .slice p2 j2 d2], 4 * 6 + 18, maxE x y) :: KE) []) :
    MN w PA KE x y (.pointer (some ⟨W.heap.size, 0, none⟩)) (.pointer (some ⟨W.heap.size + 1, 0, none⟩)) ((W.alloc (.cells #[.int .i64 (eK (maxE x y)), .bool m1, .slice p1 j1 d1, .bool m2, .slice p2 j2 d2] 39)).alloc (.cells #[.int .i64 (eK (minE x y)), .bool m3, .slice p3 j3 d3, .bool m4, .slice p4 j4 d4] 39)) := by
  have E' := (E.alloc (.cells #[.int .i64 (eK (maxE x y)), .bool m1, .slice p1 j1 d1, .bool m2, .slice p2 j2 d2] 39)).alloc (.cells #[.int .i64 (eK (minE x y)), .bool m3, .slice p3 j3 d3, .bool m4, .slice p4 j4 d4] 39)
  exact ⟨_, _, m1, p1, j1, d1, m2, p2, j2, d2, m3, p3, j3, d3, m4, p4, j4, d4, rfl, rfl, (Box5.new _ _ _ _ _ _ _ rfl).alloc _, Box5.new _ _ _ _ _ _ _ (by simp), hPA _ E'.bl, E'.rebase, below_call hU E'.bl hU.size⟩
theorem mn_ba (hU : Below w.heap.size w U) (hPA : ∀ W', Below U.heap.size U W' → PA W') (E : XE U W [] ((.agg #[.int .i64 (eK (minE x y)), .bool m3, .slice p3 j3 d3, .bool m4, .slice p4 j4 d4], 4 * 6 + 18, minE x y) :: (.agg #[.int .i64 (eK (maxE x y)), .bool m1, .slice p1 j1 d1, .bool m2, .slice p2 j2 d2], 4 * 6 + 18, maxE x y) :: KE) []) :
    MN w PA KE x y (.pointer (some ⟨W.heap.size + 1, 0, none⟩)) (.pointer (some ⟨W.heap.size, 0, none⟩)) ((W.alloc (.cells #[.int .i64 (eK (minE x y)), .bool m3, .slice p3 j3 d3, .bool m4, .slice p4 j4 d4] 39)).alloc (.cells #[.int .i64 (eK (maxE x y)), .bool m1, .slice p1 j1 d1, .bool m2, .slice p2 j2 d2] 39)) := by
  have E' := (E.alloc (.cells #[.int .i64 (eK (minE x y)), .bool m3, .slice p3 j3 d3, .bool m4, .slice p4 j4 d4] 39)).alloc (.cells #[.int .i64 (eK (maxE x y)), .bool m1, .slice p1 j1 d1, .bool m2, .slice p2 j2 d2] 39)
  exact ⟨_, _, m1, p1, j1, d1, m2, p2, j2, d2, m3, p3, j3, d3, m4, p4, j4, d4, rfl, rfl, Box5.new _ _ _ _ _ _ _ (by simp), (Box5.new _ _ _ _ _ _ _ rfl).alloc _, hPA _ E'.bl, E'.rebase, below_call hU E'.bl hU.size⟩
theorem mn_fa {g : Nat} (hU : Below w.heap.size w U) (hPA : ∀ W', Below U.heap.size U W' → PA W') (E : XE U W [] ((.agg #[.int .i64 (eK (minE x y)), .bool m3, .slice p3 j3 d3, .bool m4, .slice p4 j4 d4], 4 * 6 + 18, minE x y) :: (.agg #[.int .i64 (eK (maxE x y)), .bool m1, .slice p1 j1 d1, .bool m2, .slice p2 j2 d2], 4 * 6 + 18, maxE x y) :: KE) []) (hg : Box5 W g (.int .i64 0) (.bool false) (.slice none 0 0) (.bool false) (.slice none 0 0)) (h0 : U.heap.size ≤ g) :
    MN w PA KE x y (.pointer (some ⟨g, 0, none⟩)) (.pointer (some ⟨W.heap.size, 0, none⟩)) ((fill5 W g (.int .i64 (eK (maxE x y))) (.bool m1) (.slice p1 j1 d1) (.bool m2) (.slice p2 j2 d2)).alloc (.cells #[.int .i64 (eK (minE x y)), .bool m3, .slice p3 j3 d3, .bool m4, .slice p4 j4 d4] 39)) := by
  have E' := (E.fill hg h0 (.int .i64 (eK (maxE x y))) (.bool m1) (.slice p1 j1 d1) (.bool m2) (.slice p2 j2 d2)).alloc (.cells #[.int .i64 (eK (minE x y)), .bool m3, .slice p3 j3 d3, .bool m4, .slice p4 j4 d4] 39)
  exact ⟨_, _, m1, p1, j1, d1, m2, p2, j2, d2, m3, p3, j3, d3, m4, p4, j4, d4, rfl, rfl, (Box5.filled hg _ _ _ _ _).alloc _, Box5.new _ _ _ _ _ _ _ (size5 _ _ _ _ _ _ _).symm, hPA _ E'.bl, E'.rebase, below_call hU E'.bl hU.size⟩
theorem mn_fb {g : Nat} (hU : Below w.heap.size w U) (hPA : ∀ W', Below U.heap.size U W' → PA W') (E : XE U W [] ((.agg #[.int .i64 (eK (minE x y)), .bool m3, .slice p3 j3 d3, .bool m4, .slice p4 j4 d4], 4 * 6 + 18, minE x y) :: (.agg #[.int .i64 (eK (maxE x y)), .bool m1, .slice p1 j1 d1, .bool m2, .slice p2 j2 d2], 4 * 6 + 18, maxE x y) :: KE) []) (hg : Box5 W g (.int .i64 0) (.bool false) (.slice none 0 0) (.bool false) (.slice none 0 0)) (h0 : U.heap.size ≤ g) :
    MN w PA KE x y (.pointer (some ⟨W.heap.size, 0, none⟩)) (.pointer (some ⟨g, 0, none⟩)) ((fill5 W g (.int .i64 (eK (minE x y))) (.bool m3) (.slice p3 j3 d3) (.bool m4) (.slice p4 j4 d4)).alloc (.cells #[.int .i64 (eK (maxE x y)), .bool m1, .slice p1 j1 d1, .bool m2, .slice p2 j2 d2] 39)) := by
  have E' := (E.fill hg h0 (.int .i64 (eK (minE x y))) (.bool m3) (.slice p3 j3 d3) (.bool m4) (.slice p4 j4 d4)).alloc (.cells #[.int .i64 (eK (maxE x y)), .bool m1, .slice p1 j1 d1, .bool m2, .slice p2 j2 d2] 39)
  exact ⟨_, _, m1, p1, j1, d1, m2, p2, j2, d2, m3, p3, j3, d3, m4, p4, j4, d4, rfl, rfl, Box5.new _ _ _ _ _ _ _ (size5 _ _ _ _ _ _ _).symm, (Box5.filled hg _ _ _ _ _).alloc _, hPA _ E'.bl, E'.rebase, below_call hU E'.bl hU.size⟩
theorem mn_ff {g g' : Nat} (hU : Below w.heap.size w U) (hPA : ∀ W', Below U.heap.size U W' → PA W') (E : XE U W [] ((.agg #[.int .i64 (eK (minE x y)), .bool m3, .slice p3 j3 d3, .bool m4, .slice p4 j4 d4], 4 * 6 + 18, minE x y) :: (.agg #[.int .i64 (eK (maxE x y)), .bool m1, .slice p1 j1 d1, .bool m2, .slice p2 j2 d2], 4 * 6 + 18, maxE x y) :: KE) []) (hg : Box5 W g (.int .i64 0) (.bool false) (.slice none 0 0) (.bool false) (.slice none 0 0)) (h0 : U.heap.size ≤ g) (hg' : Box5 W g' (.int .i64 0) (.bool false) (.slice none 0 0) (.bool false) (.slice none 0 0)) (h0' : U.heap.size ≤ g') (hne : g ≠ g') :
    MN w PA KE x y (.pointer (some ⟨g, 0, none⟩)) (.pointer (some ⟨g', 0, none⟩)) (fill5 (fill5 W g (.int .i64 (eK (maxE x y))) (.bool m1) (.slice p1 j1 d1) (.bool m2) (.slice p2 j2 d2)) g' (.int .i64 (eK (minE x y))) (.bool m3) (.slice p3 j3 d3) (.bool m4) (.slice p4 j4 d4)) := by
  have hb' := hg'.beside (Ne.symm hne) (.int .i64 (eK (maxE x y))) (.bool m1) (.slice p1 j1 d1) (.bool m2) (.slice p2 j2 d2)
  have E' := (E.fill hg h0 (.int .i64 (eK (maxE x y))) (.bool m1) (.slice p1 j1 d1) (.bool m2) (.slice p2 j2 d2)).fill hb' h0' (.int .i64 (eK (minE x y))) (.bool m3) (.slice p3 j3 d3) (.bool m4) (.slice p4 j4 d4)
  exact ⟨_, _, m1, p1, j1, d1, m2, p2, j2, d2, m3, p3, j3, d3, m4, p4, j4, d4, rfl, rfl, (Box5.filled hg _ _ _ _ _).beside hne _ _ _ _ _, Box5.filled hb' _ _ _ _ _, hPA _ E'.bl, E'.rebase, below_call hU E'.bl hU.size⟩
end
theorem cmpE_range (x y : EX) : -1 ≤ cmpE x y ∧ cmpE x y ≤ 1 := by
  have hr : ∀ r t : Rat, -1 ≤ cmpR r t ∧ cmpR r t ≤ 1 := fun r t => by rcases cmpR_or r t with ⟨_, h⟩ | ⟨_, h⟩ | ⟨_, h⟩ <;> rw [h] <;> omega
  cases x <;> cases y <;> first | exact hr _ _ | simp [cmpE, eK, cmpI]
theorem cmpE_self (x : EX) : cmpE x x = 0 := (cmpE_eq_iff x x).2 rfl
theorem maxE_l (x y : EX) : 0 ≤ cmpE (maxE x y) x := by
  unfold maxE
  split
  · have := cmpE_swap x y; omega
  · rw [cmpE_self]; omega
theorem maxE_r (x y : EX) : 0 ≤ cmpE (maxE x y) y := by
  unfold maxE
  split
  · rw [cmpE_self]; omega
  · omega
theorem minE_l (x y : EX) : cmpE (minE x y) x ≤ 0 := by
  unfold minE
  split
  · omega
  · rw [cmpE_self]; omega
theorem minE_r (x y : EX) : cmpE (minE x y) y ≤ 0 := by
  unfold minE
  split
  · rw [cmpE_self]; omega
  · have := cmpE_swap x y; omega

set_option maxHeartbeats 12800000 in
theorem extOrders_any (w : World) (k1 : Int) (n1 : Bool) (a1 : Option Addr) (c1 : Nat) (l1 : List Nat) (n2 : Bool) (a2 : Option Addr) (c2 : Nat) (l2 : List Nat) (k2 : Int) (n3 : Bool) (a3 : Option Addr) (c3 : Nat) (l3 : List Nat) (n4 : Bool) (a4 : Option Addr) (c4 : Nat) (l4 : List Nat) (k3 : Int) (n5 : Bool) (a5 : Option Addr) (c5 : Nat) (l5 : List Nat) (n6 : Bool) (a6 : Option Addr) (c6 : Nat) (l6 : List Nat) (h1 : SlAt w a1 c1 l1) (h2 : SlAt w a2 c2 l2) (h3 : SlAt w a3 c3 l3) (h4 : SlAt w a4 c4 l4) (h5 : SlAt w a5 c5 l5) (h6 : SlAt w a6 c6 l6) :
    Calls Try.prog 4 #[.agg #[.int .i64 k1, .bool n1, .slice a1 l1.length c1, .bool n2, .slice a2 l2.length c2], .agg #[.int .i64 k2, .bool n3, .slice a3 l3.length c3, .bool n4, .slice a4 l4.length c4], .agg #[.int .i64 k3, .bool n5, .slice a5 l5.length c5, .bool n6, .slice a6 l6.length c6]] w fun e w' => e = .returned (.bool true) ∧ Below w.heap.size w w' := by
  have hk1 := slat_len h1
  have hk2 := slat_len h2
  have hk3 := slat_len h3
  have hk4 := slat_len h4
  have hk5 := slat_len h5
  have hk6 := slat_len h6
  have HX0 := hid (earg_mk (k := k1) (n1 := n1) (n2 := n2) h1 h2)
  have HY0 := hid (earg_mk (k := k2) (n1 := n3) (n2 := n4) h3 h4)
  have HZ0 := hid (earg_mk (k := k3) (n1 := n5) (n2 := n6) h5 h6)
  clear h1 h2 h3 h4 h5 h6
  generalize extMean k1 n1 l1 n2 l2 = x at *
  generalize extMean k2 n3 l3 n4 l4 = y at *
  generalize extMean k3 n5 l5 n6 l6 = z at *
  generalize l1.length = L1 at *
  generalize l2.length = L2 at *
  generalize l3.length = L3 at *
  generalize l4.length = L4 at *
  generalize l5.length = L5 at *
  generalize l6.length = L6 at *
  go_enter Try.func4, Try.ntmps4
  go_wp2_with fail
  refine (great_x3 _ _ k1 k2 k3 n1 n2 n3 n4 n5 n6 a1 a2 a3 a4 a5 a6 L1 c1 L2 c2 L3 c3 L4 c4 L5 c5 L6 c6 (by simp) hk1 hk2 hk3 hk4 hk5 hk6).mono ?_
  rintro e W0 ⟨rfl, hb0⟩
  have hWl : Below w.heap.size w ((((w.alloc (.cells #[.int .i64 k1, .bool n1, .slice a1 L1 c1, .bool n2, .slice a2 L2 c2] 39)).alloc (.cells #[.int .i64 k2, .bool n3, .slice a3 L3 c3, .bool n4, .slice a4 L4 c4] 39)).alloc (.cells #[.int .i64 k3, .bool n5, .slice a5 L5 c5, .bool n6, .slice a6 L6 c6] 39)).alloc (.cells #[.int .i64 k1, .bool n1, .slice a1 L1 c1, .bool n2, .slice a2 L2 c2, .int .i64 k2, .bool n3, .slice a3 L3 c3, .bool n4, .slice a4 L4 c4, .int .i64 k3, .bool n5, .slice a5 L5 c5, .bool n6, .slice a6 L6 c6] 39)) := (by repeat (first | exact Below.refl _ _ | refine Below.alloc ?_ ?_ _ | refine Below.setCell ?_ ?_ _ | refine Below.drew ?_ | refine below_drewN ?_ _ | (· simp) | omega | (· simp; omega) | exact Below.size (by assumption) | assumption | refine below_call ?_ (by assumption) ?_))
  have hW0 := below_call hWl hb0 hWl.size
  have bA0 : Box5 W0 w.heap.size (.int .i64 k1) (.bool n1) (.slice a1 L1 c1) (.bool n2) (.slice a2 L2 c2) := ((((Box5.new _ _ _ _ _ _ _ rfl).alloc _).alloc _).alloc _).keep hb0
  have bB0 : Box5 W0 (w.heap.size + 1) (.int .i64 k2) (.bool n3) (.slice a3 L3 c3) (.bool n4) (.slice a4 L4 c4) := (((Box5.new _ _ _ _ _ _ _ (by simp)).alloc _).alloc _).keep hb0
  have bC0 : Box5 W0 (w.heap.size + 1 + 1) (.int .i64 k3) (.bool n5) (.slice a5 L5 c5) (.bool n6) (.slice a6 L6 c6) := ((Box5.new _ _ _ _ _ _ _ (by simp)).alloc _).keep hb0
  clear hb0 hWl
  cases hG : greatR [(L1, L2), (L3, L4), (L5, L6)]
  · obtain ⟨q1, q2⟩ := great_small hG (L1, L2) (List.Mem.head _)
    obtain ⟨q3, q4⟩ := great_small hG (L3, L4) (List.Mem.tail _ (List.Mem.head _))
    obtain ⟨q5, q6⟩ := great_small hG (L5, L6) (List.Mem.tail _ (List.Mem.tail _ (List.Mem.head _)))
    clear hG
    have E0 : XE W0 W0 [] [(Value.agg #[Value.int .i64 k3, Value.bool n5, Value.slice a5 L5 c5, Value.bool n6, Value.slice a6 L6 c6], 6, z), (Value.agg #[Value.int .i64 k2, Value.bool n3, Value.slice a3 L3 c3, Value.bool n4, Value.slice a4 L4 c4], 6, y), (Value.agg #[Value.int .i64 k1, Value.bool n1, Value.slice a1 L1 c1, Value.bool n2, Value.slice a2 L2 c2], 6, x)] [] := (((xe_none W0).knowE ((HX0.out 6 q1 q2).below hW0)).knowE ((HY0.out 6 q3 q4).below hW0)).knowE ((HZ0.out 6 q5 q6).below hW0)
    clear HX0 HY0 HZ0 hk1 hk2 hk3 hk4 hk5 hk6 q1 q2 q3 q4 q5 q6
    obtain ⟨x0, x1, x2, x3, x4, y0, y1, y2, y3, y4⟩ := keep55 bA0 bB0 (Below.refl _ _)
    obtain ⟨c, hc⟩ : ∃ c, cmpE x y = c := ⟨_, rfl⟩
    have HC := hid hc
    have hcr := cmpE_range x y
    rw [hc] at hcr
    obtain ⟨hcr1, hcr2⟩ := hcr
    clear hc
    go_wp2_with fail
    clear x0 x1 x2 x3 x4 y0 y1 y2 y3 y4
    refine (xe_cmpV E0 (by repeat (first | exact List.Mem.head _ | refine List.Mem.tail _ ?_)) (by repeat (first | exact List.Mem.head _ | refine List.Mem.tail _ ?_)) HC.out (by omega) (by omega)).mono ?_
    rintro e W1 ⟨rfl, E1⟩
    have bA1 := bA0.keep E1.bl
    have bB1 := bB0.keep E1.bl
    have bC1 := bC0.keep E1.bl
    have hW1 := below_call hW0 E1.bl hW0.size
    have E := E1.rebase
    have HPA : Hid (∀ W', Below W1.heap.size W1 W' → (fun W' => Box5 W' w.heap.size (.int .i64 k1) (.bool n1) (.slice a1 L1 c1) (.bool n2) (.slice a2 L2 c2) ∧ Box5 W' (w.heap.size + 1) (.int .i64 k2) (.bool n3) (.slice a3 L3 c3) (.bool n4) (.slice a4 L4 c4) ∧ Box5 W' (w.heap.size + 1 + 1) (.int .i64 k3) (.bool n5) (.slice a5 L5 c5) (.bool n6) (.slice a6 L6 c6)) W') := hid (fun W' hb => ⟨bA1.keep hb, bB1.keep hb, bC1.keep hb⟩)
    obtain ⟨x0, x1, x2, x3, x4, y0, y1, y2, y3, y4⟩ := keep55 bA1 bB1 (Below.refl _ _)
    have lA := bA1.lt
    have lB := bB1.lt
    clear E0 E1 bA0 bB0 bC0 hW0
    go_wp2_with fail
    clear x0 x1 x2 x3 x4 y0 y1 y2 y3 y4
    go_cut [8, 9] (fun p8 p9 wc => MN w (fun W' => Box5 W' w.heap.size (.int .i64 k1) (.bool n1) (.slice a1 L1 c1) (.bool n2) (.slice a2 L2 c2) ∧ Box5 W' (w.heap.size + 1) (.int .i64 k2) (.bool n3) (.slice a3 L3 c3) (.bool n4) (.slice a4 L4 c4) ∧ Box5 W' (w.heap.size + 1 + 1) (.int .i64 k3) (.bool n5) (.slice a5 L5 c5) (.bool n6) (.slice a6 L6 c6)) [(Value.agg #[Value.int .i64 k3, Value.bool n5, Value.slice a5 L5 c5, Value.bool n6, Value.slice a6 L6 c6], 6, z), (Value.agg #[Value.int .i64 k2, Value.bool n3, Value.slice a3 L3 c3, Value.bool n4, Value.slice a4 L4 c4], 6, y), (Value.agg #[Value.int .i64 k1, Value.bool n1, Value.slice a1 L1 c1, Value.bool n2, Value.slice a2 L2 c2], 6, x)] x y p8 p9 wc)
    case first =>
      go_region_held3 (fun W' => W'.cell? ⟨w.heap.size, 0, none⟩ = some (.int .i64 k1) ∧ W'.cell? ⟨w.heap.size, 1, none⟩ = some (.bool n1) ∧ W'.cell? ⟨w.heap.size, 2, none⟩ = some (.slice a1 L1 c1) ∧ W'.cell? ⟨w.heap.size, 3, none⟩ = some (.bool n2) ∧ W'.cell? ⟨w.heap.size, 4, none⟩ = some (.slice a2 L2 c2) ∧ W'.cell? ⟨w.heap.size + 1, 0, none⟩ = some (.int .i64 k2) ∧ W'.cell? ⟨w.heap.size + 1, 1, none⟩ = some (.bool n3) ∧ W'.cell? ⟨w.heap.size + 1, 2, none⟩ = some (.slice a3 L3 c3) ∧ W'.cell? ⟨w.heap.size + 1, 3, none⟩ = some (.bool n4) ∧ W'.cell? ⟨w.heap.size + 1, 4, none⟩ = some (.slice a4 L4 c4)) ((refine keep55 bA1 bB1 ?_; ((try rw [fill5_eq]); (try rw [fill5_eq]); repeat (first | with_reducible exact E.bl | (with_reducible refine below_fill5 ?_ ?_ _ _ _ _ _; rotate_left; (focus (first | omega | (dsimp only; omega) | (simp only [asize, dsize, size5]; omega) | (simp only [asize, dsize, size5]; done)))) | with_reducible refine Below.drew ?_ | (with_reducible refine Below.alloc ?_ ?_ _; rotate_left; (focus (first | omega | (dsimp only; omega) | (simp only [asize, dsize, size5]; omega) | (simp only [asize, dsize, size5]; done)))) | (with_reducible refine Below.setCell ?_ ?_ _; rotate_left; (focus (first | omega | (dsimp only; omega) | (simp only [asize, dsize, size5]; omega)))))))) (first
        | (go_at_call 20; refine (xmax_via E ?_ (by repeat (first | exact List.Mem.head _ | refine List.Mem.tail _ ?_)) (by repeat (first | exact List.Mem.head _ | refine List.Mem.tail _ ?_)) (by omega)).mono ?_; (focus ((repeat (first | with_reducible exact E | with_reducible refine XE.drew ?_ | with_reducible refine XE.alloc ?_ _ | (with_reducible apply XE.fill; rotate_left; (focus ((repeat (first | with_reducible exact b1z | with_reducible exact b2z | with_reducible exact c1z | with_reducible exact c2z | with_reducible exact c3z | with_reducible exact c4z | (with_reducible refine Box5.new _ _ _ _ _ _ _ ?_; (first | rfl | (simp only [asize, dsize, size5]; done))) | with_reducible apply Box5.filled | (with_reducible refine Box5.beside ?_ ?_ _ _ _ _ _; rotate_left; (focus (first | omega | (simp only [asize, dsize, size5]; omega)))) | with_reducible refine Box5.drewX ?_ | with_reducible refine Box5.alloc ?_ _)))); (focus (first | omega | (dsimp only; omega) | (simp only [asize, dsize, size5]; omega) | (simp only [asize, dsize, size5]; done)))))))); rintro e w2 ⟨m1, p1, j1, d1, m2, p2, j2, d2, rfl, En, hbn⟩; (try (refine (have b1z : Box5 w2 W1.heap.size (.int .i64 0) (.bool false) (.slice none 0 0) (.bool false) (.slice none 0 0) := ?_; ?_); (focus (refine Box5.keep ?_ hbn; (repeat (first | with_reducible exact b1z | with_reducible exact b2z | with_reducible exact c1z | with_reducible exact c2z | with_reducible exact c3z | with_reducible exact c4z | (with_reducible refine Box5.new _ _ _ _ _ _ _ ?_; (first | rfl | (simp only [asize, dsize, size5]; done))) | with_reducible apply Box5.filled | (with_reducible refine Box5.beside ?_ ?_ _ _ _ _ _; rotate_left; (focus (first | omega | (simp only [asize, dsize, size5]; omega)))) | with_reducible refine Box5.drewX ?_ | with_reducible refine Box5.alloc ?_ _)); done)))); (try (refine (have b2z : Box5 w2 (W1.heap.size + 1) (.int .i64 0) (.bool false) (.slice none 0 0) (.bool false) (.slice none 0 0) := ?_; ?_); (focus (refine Box5.keep ?_ hbn; (repeat (first | with_reducible exact b1z | with_reducible exact b2z | with_reducible exact c1z | with_reducible exact c2z | with_reducible exact c3z | with_reducible exact c4z | (with_reducible refine Box5.new _ _ _ _ _ _ _ ?_; (first | rfl | (simp only [asize, dsize, size5]; done))) | with_reducible apply Box5.filled | (with_reducible refine Box5.beside ?_ ?_ _ _ _ _ _; rotate_left; (focus (first | omega | (simp only [asize, dsize, size5]; omega)))) | with_reducible refine Box5.drewX ?_ | with_reducible refine Box5.alloc ?_ _)); done)))); have sz2 := hbn.size; (try simp only [asize, dsize] at sz2); clear E hbn; have E := En; clear En; (try (obtain ⟨b10, b11, b12, b13, b14⟩ := b1z.c; have b1f := b1z.f; have b1l := b1z.lt)); (try (obtain ⟨b20, b21, b22, b23, b24⟩ := b2z.c; have b2f := b2z.f; have b2l := b2z.lt)))
        | (go_at_call 21; (try rw [fill5_eq]); refine (xmin_via E ?_ (by repeat (first | exact List.Mem.head _ | refine List.Mem.tail _ ?_)) (by repeat (first | exact List.Mem.head _ | refine List.Mem.tail _ ?_)) (by omega)).mono ?_; (focus ((repeat (first | with_reducible exact E | with_reducible refine XE.drew ?_ | with_reducible refine XE.alloc ?_ _ | (with_reducible apply XE.fill; rotate_left; (focus ((repeat (first | with_reducible exact b1z | with_reducible exact b2z | with_reducible exact c1z | with_reducible exact c2z | with_reducible exact c3z | with_reducible exact c4z | (with_reducible refine Box5.new _ _ _ _ _ _ _ ?_; (first | rfl | (simp only [asize, dsize, size5]; done))) | with_reducible apply Box5.filled | (with_reducible refine Box5.beside ?_ ?_ _ _ _ _ _; rotate_left; (focus (first | omega | (simp only [asize, dsize, size5]; omega)))) | with_reducible refine Box5.drewX ?_ | with_reducible refine Box5.alloc ?_ _)))); (focus (first | omega | (dsimp only; omega) | (simp only [asize, dsize, size5]; omega) | (simp only [asize, dsize, size5]; done)))))))); rintro e w3 ⟨m3, p3, j3, d3, m4, p4, j4, d4, rfl, En, hbn⟩; (first | (refine (have c1z : Box5 w3 W1.heap.size (.int .i64 0) (.bool false) (.slice none 0 0) (.bool false) (.slice none 0 0) := ?_; ?_); (focus (refine Box5.keep ?_ hbn; (repeat (first | with_reducible exact b1z | with_reducible exact b2z | with_reducible exact c1z | with_reducible exact c2z | with_reducible exact c3z | with_reducible exact c4z | (with_reducible refine Box5.new _ _ _ _ _ _ _ ?_; (first | rfl | (simp only [asize, dsize, size5]; done))) | with_reducible apply Box5.filled | (with_reducible refine Box5.beside ?_ ?_ _ _ _ _ _; rotate_left; (focus (first | omega | (simp only [asize, dsize, size5]; omega)))) | with_reducible refine Box5.drewX ?_ | with_reducible refine Box5.alloc ?_ _)); done))) | (refine (have c1z : Box5 w3 W1.heap.size (.int .i64 (eK (maxE x y))) (.bool m1) (.slice p1 j1 d1) (.bool m2) (.slice p2 j2 d2) := ?_; ?_); (focus (refine Box5.keep ?_ hbn; (repeat (first | with_reducible exact b1z | with_reducible exact b2z | with_reducible exact c1z | with_reducible exact c2z | with_reducible exact c3z | with_reducible exact c4z | (with_reducible refine Box5.new _ _ _ _ _ _ _ ?_; (first | rfl | (simp only [asize, dsize, size5]; done))) | with_reducible apply Box5.filled | (with_reducible refine Box5.beside ?_ ?_ _ _ _ _ _; rotate_left; (focus (first | omega | (simp only [asize, dsize, size5]; omega)))) | with_reducible refine Box5.drewX ?_ | with_reducible refine Box5.alloc ?_ _)); done))) | skip); (first | (refine (have c2z : Box5 w3 (W1.heap.size + 1) (.int .i64 0) (.bool false) (.slice none 0 0) (.bool false) (.slice none 0 0) := ?_; ?_); (focus (refine Box5.keep ?_ hbn; (repeat (first | with_reducible exact b1z | with_reducible exact b2z | with_reducible exact c1z | with_reducible exact c2z | with_reducible exact c3z | with_reducible exact c4z | (with_reducible refine Box5.new _ _ _ _ _ _ _ ?_; (first | rfl | (simp only [asize, dsize, size5]; done))) | with_reducible apply Box5.filled | (with_reducible refine Box5.beside ?_ ?_ _ _ _ _ _; rotate_left; (focus (first | omega | (simp only [asize, dsize, size5]; omega)))) | with_reducible refine Box5.drewX ?_ | with_reducible refine Box5.alloc ?_ _)); done))) | (refine (have c2z : Box5 w3 (W1.heap.size + 1) (.int .i64 (eK (maxE x y))) (.bool m1) (.slice p1 j1 d1) (.bool m2) (.slice p2 j2 d2) := ?_; ?_); (focus (refine Box5.keep ?_ hbn; (repeat (first | with_reducible exact b1z | with_reducible exact b2z | with_reducible exact c1z | with_reducible exact c2z | with_reducible exact c3z | with_reducible exact c4z | (with_reducible refine Box5.new _ _ _ _ _ _ _ ?_; (first | rfl | (simp only [asize, dsize, size5]; done))) | with_reducible apply Box5.filled | (with_reducible refine Box5.beside ?_ ?_ _ _ _ _ _; rotate_left; (focus (first | omega | (simp only [asize, dsize, size5]; omega)))) | with_reducible refine Box5.drewX ?_ | with_reducible refine Box5.alloc ?_ _)); done))) | skip); (first | (refine (have c3z : Box5 w3 w2.heap.size (.int .i64 0) (.bool false) (.slice none 0 0) (.bool false) (.slice none 0 0) := ?_; ?_); (focus (refine Box5.keep ?_ hbn; (repeat (first | with_reducible exact b1z | with_reducible exact b2z | with_reducible exact c1z | with_reducible exact c2z | with_reducible exact c3z | with_reducible exact c4z | (with_reducible refine Box5.new _ _ _ _ _ _ _ ?_; (first | rfl | (simp only [asize, dsize, size5]; done))) | with_reducible apply Box5.filled | (with_reducible refine Box5.beside ?_ ?_ _ _ _ _ _; rotate_left; (focus (first | omega | (simp only [asize, dsize, size5]; omega)))) | with_reducible refine Box5.drewX ?_ | with_reducible refine Box5.alloc ?_ _)); done))) | (refine (have c3z : Box5 w3 w2.heap.size (.int .i64 (eK (maxE x y))) (.bool m1) (.slice p1 j1 d1) (.bool m2) (.slice p2 j2 d2) := ?_; ?_); (focus (refine Box5.keep ?_ hbn; (repeat (first | with_reducible exact b1z | with_reducible exact b2z | with_reducible exact c1z | with_reducible exact c2z | with_reducible exact c3z | with_reducible exact c4z | (with_reducible refine Box5.new _ _ _ _ _ _ _ ?_; (first | rfl | (simp only [asize, dsize, size5]; done))) | with_reducible apply Box5.filled | (with_reducible refine Box5.beside ?_ ?_ _ _ _ _ _; rotate_left; (focus (first | omega | (simp only [asize, dsize, size5]; omega)))) | with_reducible refine Box5.drewX ?_ | with_reducible refine Box5.alloc ?_ _)); done))) | skip); (first | (refine (have c4z : Box5 w3 (w2.heap.size + 1) (.int .i64 0) (.bool false) (.slice none 0 0) (.bool false) (.slice none 0 0) := ?_; ?_); (focus (refine Box5.keep ?_ hbn; (repeat (first | with_reducible exact b1z | with_reducible exact b2z | with_reducible exact c1z | with_reducible exact c2z | with_reducible exact c3z | with_reducible exact c4z | (with_reducible refine Box5.new _ _ _ _ _ _ _ ?_; (first | rfl | (simp only [asize, dsize, size5]; done))) | with_reducible apply Box5.filled | (with_reducible refine Box5.beside ?_ ?_ _ _ _ _ _; rotate_left; (focus (first | omega | (simp only [asize, dsize, size5]; omega)))) | with_reducible refine Box5.drewX ?_ | with_reducible refine Box5.alloc ?_ _)); done))) | (refine (have c4z : Box5 w3 (w2.heap.size + 1) (.int .i64 (eK (maxE x y))) (.bool m1) (.slice p1 j1 d1) (.bool m2) (.slice p2 j2 d2) := ?_; ?_); (focus (refine Box5.keep ?_ hbn; (repeat (first | with_reducible exact b1z | with_reducible exact b2z | with_reducible exact c1z | with_reducible exact c2z | with_reducible exact c3z | with_reducible exact c4z | (with_reducible refine Box5.new _ _ _ _ _ _ _ ?_; (first | rfl | (simp only [asize, dsize, size5]; done))) | with_reducible apply Box5.filled | (with_reducible refine Box5.beside ?_ ?_ _ _ _ _ _; rotate_left; (focus (first | omega | (simp only [asize, dsize, size5]; omega)))) | with_reducible refine Box5.drewX ?_ | with_reducible refine Box5.alloc ?_ _)); done))) | skip); have sz3 := hbn.size; (try simp only [asize, dsize, size5] at sz3); (try clear b10 b11 b12 b13 b14 b1f b1l); (try clear b20 b21 b22 b23 b24 b2f b2l); (try clear b1z); (try clear b2z); clear E hbn; have E := En; clear En; (try (obtain ⟨c10, c11, c12, c13, c14⟩ := c1z.c; have c1f := c1z.f; have c1l := c1z.lt)); (try (obtain ⟨c20, c21, c22, c23, c24⟩ := c2z.c; have c2f := c2z.f; have c2l := c2z.lt)); (try (obtain ⟨c30, c31, c32, c33, c34⟩ := c3z.c; have c3f := c3z.f; have c3l := c3z.lt)); (try (obtain ⟨c40, c41, c42, c43, c44⟩ := c4z.c; have c4f := c4z.f; have c4l := c4z.lt))))
      all_goals (go_wp2_with fail; go_meet; (try rw [fill5_eq]); (try rw [fill5_eq]); first | with_reducible exact mn_aa hW1 HPA.out E | with_reducible exact mn_ba hW1 HPA.out E | with_reducible exact mn_fa hW1 HPA.out E c1z (by omega) | with_reducible exact mn_fb hW1 HPA.out E c1z (by omega) | with_reducible exact mn_fa hW1 HPA.out E c2z (by omega) | with_reducible exact mn_fb hW1 HPA.out E c2z (by omega) | with_reducible exact mn_fa hW1 HPA.out E c3z (by omega) | with_reducible exact mn_fb hW1 HPA.out E c3z (by omega) | with_reducible exact mn_fa hW1 HPA.out E c4z (by omega) | with_reducible exact mn_fb hW1 HPA.out E c4z (by omega) | with_reducible exact mn_ff hW1 HPA.out E c1z (by omega) c2z (by omega) (by omega) | with_reducible exact mn_ff hW1 HPA.out E c1z (by omega) c3z (by omega) (by omega) | with_reducible exact mn_ff hW1 HPA.out E c1z (by omega) c4z (by omega) (by omega) | with_reducible exact mn_ff hW1 HPA.out E c2z (by omega) c1z (by omega) (by omega) | with_reducible exact mn_ff hW1 HPA.out E c2z (by omega) c3z (by omega) (by omega) | with_reducible exact mn_ff hW1 HPA.out E c2z (by omega) c4z (by omega) (by omega) | with_reducible exact mn_ff hW1 HPA.out E c3z (by omega) c1z (by omega) (by omega) | with_reducible exact mn_ff hW1 HPA.out E c3z (by omega) c2z (by omega) (by omega) | with_reducible exact mn_ff hW1 HPA.out E c3z (by omega) c4z (by omega) (by omega) | with_reducible exact mn_ff hW1 HPA.out E c4z (by omega) c1z (by omega) (by omega) | with_reducible exact mn_ff hW1 HPA.out E c4z (by omega) c2z (by omega) (by omega) | with_reducible exact mn_ff hW1 HPA.out E c4z (by omega) c3z (by omega) (by omega))
    case rest =>
      obtain ⟨g8, g9, m1, p1, j1, d1, m2, p2, j2, d2, m3, p3, j3, d3, m4, p4, j4, d4, rfl, rfl, b8, b9, ⟨bA, bB, bC⟩, Ec, hWc⟩ := hcut
      clear E bA1 bB1 bC1 hW1 lA lB
      have E := Ec
      clear Ec
      have HS1 : Hid (cmpE y x = -c) := hid (by rw [cmpE_swap x y, HC.out])
      have hwr : IntKind.i64.wrap (-c) = -c := by rcases (show c = -1 ∨ c = 0 ∨ c = 1 by omega) with rfl | rfl | rfl <;> rfl
      have HA : Hid (0 ≤ cmpE z x → 0 ≤ cmpE z y → 0 ≤ cmpE z (maxE x y)) := hid (fun p q => by unfold maxE; split <;> assumption)
      have HB : Hid (cmpE z x ≤ 0 → cmpE z y ≤ 0 → cmpE z (minE x y) ≤ 0) := hid (fun p q => by unfold minE; split <;> assumption)
      have HT : Hid (c ≤ 0 → cmpE y z ≤ 0 → cmpE x z ≤ 0) := hid (fun p q => cmpE_trans (by rw [HC.out]; exact p) q)
      obtain ⟨e1, h1⟩ : ∃ e1, cmpE (maxE x y) x = e1 := ⟨_, rfl⟩
      obtain ⟨e2, h2⟩ : ∃ e2, cmpE (maxE x y) y = e2 := ⟨_, rfl⟩
      obtain ⟨e3, h3⟩ : ∃ e3, cmpE (minE x y) x = e3 := ⟨_, rfl⟩
      obtain ⟨e4, h4⟩ : ∃ e4, cmpE (minE x y) y = e4 := ⟨_, rfl⟩
      obtain ⟨f1, h5⟩ : ∃ f1, cmpE z x = f1 := ⟨_, rfl⟩
      obtain ⟨f2, h6⟩ : ∃ f2, cmpE z y = f2 := ⟨_, rfl⟩
      obtain ⟨f3, h7⟩ : ∃ f3, cmpE z (maxE x y) = f3 := ⟨_, rfl⟩
      obtain ⟨f4, h8⟩ : ∃ f4, cmpE z (minE x y) = f4 := ⟨_, rfl⟩
      obtain ⟨f5, h9⟩ : ∃ f5, cmpE y z = f5 := ⟨_, rfl⟩
      obtain ⟨f6, h10⟩ : ∃ f6, cmpE x z = f6 := ⟨_, rfl⟩
      have r1 : 0 ≤ e1 := by rw [← h1]; exact maxE_l x y
      have r2 : 0 ≤ e2 := by rw [← h2]; exact maxE_r x y
      have r3 : e3 ≤ 0 := by rw [← h3]; exact minE_l x y
      have r4 : e4 ≤ 0 := by rw [← h4]; exact minE_r x y
      rw [h5, h6, h7] at HA
      rw [h5, h6, h8] at HB
      rw [h9, h10] at HT
      have HM1 := hid h1
      have HM2 := hid h2
      have HN1 := hid h3
      have HN2 := hid h4
      have HZ1 := hid h5
      have HZ2 := hid h6
      have HZM := hid h7
      have HZN := hid h8
      have HYZ := hid h9
      have HXZ := hid h10
      clear h1 h2 h3 h4 h5 h6 h7 h8 h9 h10 HC
      (try clear x0 x1 x2 x3 x4); (try clear y0 y1 y2 y3 y4); (try clear z0 z1 z2 z3 z4); (try clear u0 u1 u2 u3 u4); (try clear v0 v1 v2 v3 v4); obtain ⟨x0, x1, x2, x3, x4⟩ := (bA.keep E.bl).c; obtain ⟨y0, y1, y2, y3, y4⟩ := (bB.keep E.bl).c; obtain ⟨z0, z1, z2, z3, z4⟩ := (bC.keep E.bl).c; obtain ⟨u0, u1, u2, u3, u4⟩ := (b8.keep E.bl).c; obtain ⟨v0, v1, v2, v3, v4⟩ := (b9.keep E.bl).c
      go_wp2_with fail
      refine (xe_cmpV E (.tail _ (.tail _ (.tail _ (.head _)))) (.tail _ (.tail _ (.tail _ (.tail _ (.head _))))) HS1.out (by omega) (by omega)).mono ?_
      rintro e wn ⟨rfl, En⟩
      clear E
      have E := En
      clear En
      (try clear x0 x1 x2 x3 x4); (try clear y0 y1 y2 y3 y4); (try clear z0 z1 z2 z3 z4); (try clear u0 u1 u2 u3 u4); (try clear v0 v1 v2 v3 v4); obtain ⟨x0, x1, x2, x3, x4⟩ := (bA.keep E.bl).c; obtain ⟨y0, y1, y2, y3, y4⟩ := (bB.keep E.bl).c; obtain ⟨z0, z1, z2, z3, z4⟩ := (bC.keep E.bl).c; obtain ⟨u0, u1, u2, u3, u4⟩ := (b8.keep E.bl).c; obtain ⟨v0, v1, v2, v3, v4⟩ := (b9.keep E.bl).c
      go_wp2_with fail
      refine (xe_cmpV E (.tail _ (.head _)) (.tail _ (.tail _ (.tail _ (.tail _ (.head _))))) HM1.out (by omega) (by omega)).mono ?_
      rintro e wn ⟨rfl, En⟩
      clear E
      have E := En
      clear En
      (try clear x0 x1 x2 x3 x4); (try clear y0 y1 y2 y3 y4); (try clear z0 z1 z2 z3 z4); (try clear u0 u1 u2 u3 u4); (try clear v0 v1 v2 v3 v4); obtain ⟨x0, x1, x2, x3, x4⟩ := (bA.keep E.bl).c; obtain ⟨y0, y1, y2, y3, y4⟩ := (bB.keep E.bl).c; obtain ⟨z0, z1, z2, z3, z4⟩ := (bC.keep E.bl).c; obtain ⟨u0, u1, u2, u3, u4⟩ := (b8.keep E.bl).c; obtain ⟨v0, v1, v2, v3, v4⟩ := (b9.keep E.bl).c
      go_wp2_with fail
      refine (xe_cmpV E (.tail _ (.head _)) (.tail _ (.tail _ (.tail _ (.head _)))) HM2.out (by omega) (by omega)).mono ?_
      rintro e wn ⟨rfl, En⟩
      clear E
      have E := En
      clear En
      (try clear x0 x1 x2 x3 x4); (try clear y0 y1 y2 y3 y4); (try clear z0 z1 z2 z3 z4); (try clear u0 u1 u2 u3 u4); (try clear v0 v1 v2 v3 v4); obtain ⟨x0, x1, x2, x3, x4⟩ := (bA.keep E.bl).c; obtain ⟨y0, y1, y2, y3, y4⟩ := (bB.keep E.bl).c; obtain ⟨z0, z1, z2, z3, z4⟩ := (bC.keep E.bl).c; obtain ⟨u0, u1, u2, u3, u4⟩ := (b8.keep E.bl).c; obtain ⟨v0, v1, v2, v3, v4⟩ := (b9.keep E.bl).c
      go_wp2_with fail
      refine (xe_cmpV E (.head _) (.tail _ (.tail _ (.tail _ (.tail _ (.head _))))) HN1.out (by omega) (by omega)).mono ?_
      rintro e wn ⟨rfl, En⟩
      clear E
      have E := En
      clear En
      (try clear x0 x1 x2 x3 x4); (try clear y0 y1 y2 y3 y4); (try clear z0 z1 z2 z3 z4); (try clear u0 u1 u2 u3 u4); (try clear v0 v1 v2 v3 v4); obtain ⟨x0, x1, x2, x3, x4⟩ := (bA.keep E.bl).c; obtain ⟨y0, y1, y2, y3, y4⟩ := (bB.keep E.bl).c; obtain ⟨z0, z1, z2, z3, z4⟩ := (bC.keep E.bl).c; obtain ⟨u0, u1, u2, u3, u4⟩ := (b8.keep E.bl).c; obtain ⟨v0, v1, v2, v3, v4⟩ := (b9.keep E.bl).c
      go_wp2_with fail
      refine (xe_cmpV E (.head _) (.tail _ (.tail _ (.tail _ (.head _)))) HN2.out (by omega) (by omega)).mono ?_
      rintro e wn ⟨rfl, En⟩
      clear E
      have E := En
      clear En
      (try clear x0 x1 x2 x3 x4); (try clear y0 y1 y2 y3 y4); (try clear z0 z1 z2 z3 z4); (try clear u0 u1 u2 u3 u4); (try clear v0 v1 v2 v3 v4); obtain ⟨x0, x1, x2, x3, x4⟩ := (bA.keep E.bl).c; obtain ⟨y0, y1, y2, y3, y4⟩ := (bB.keep E.bl).c; obtain ⟨z0, z1, z2, z3, z4⟩ := (bC.keep E.bl).c; obtain ⟨u0, u1, u2, u3, u4⟩ := (b8.keep E.bl).c; obtain ⟨v0, v1, v2, v3, v4⟩ := (b9.keep E.bl).c
      go_wp2_with fail
      by_cases g1 : f1 < 0
      · have g1a : ¬ 0 ≤ f1 := by omega
        have g1b : f1 ≤ 0 := by omega
        by_cases g2 : f2 ≤ 0
        · have g4 : f4 ≤ 0 := HB.out g1b g2
          refine (xe_cmpV E (.tail _ (.tail _ (.head _))) (.tail _ (.tail _ (.tail _ (.tail _ (.head _))))) HZ1.out (by omega) (by omega)).mono ?_
          rintro e wn ⟨rfl, En⟩
          clear E
          have E := En
          clear En
          (try clear x0 x1 x2 x3 x4); (try clear y0 y1 y2 y3 y4); (try clear z0 z1 z2 z3 z4); (try clear u0 u1 u2 u3 u4); (try clear v0 v1 v2 v3 v4); obtain ⟨x0, x1, x2, x3, x4⟩ := (bA.keep E.bl).c; obtain ⟨y0, y1, y2, y3, y4⟩ := (bB.keep E.bl).c; obtain ⟨z0, z1, z2, z3, z4⟩ := (bC.keep E.bl).c; obtain ⟨u0, u1, u2, u3, u4⟩ := (b8.keep E.bl).c; obtain ⟨v0, v1, v2, v3, v4⟩ := (b9.keep E.bl).c
          go_wp2_with fail
          refine (xe_cmpV E (.tail _ (.tail _ (.head _))) (.tail _ (.tail _ (.tail _ (.tail _ (.head _))))) HZ1.out (by omega) (by omega)).mono ?_
          rintro e wn ⟨rfl, En⟩
          clear E
          have E := En
          clear En
          (try clear x0 x1 x2 x3 x4); (try clear y0 y1 y2 y3 y4); (try clear z0 z1 z2 z3 z4); (try clear u0 u1 u2 u3 u4); (try clear v0 v1 v2 v3 v4); obtain ⟨x0, x1, x2, x3, x4⟩ := (bA.keep E.bl).c; obtain ⟨y0, y1, y2, y3, y4⟩ := (bB.keep E.bl).c; obtain ⟨z0, z1, z2, z3, z4⟩ := (bC.keep E.bl).c; obtain ⟨u0, u1, u2, u3, u4⟩ := (b8.keep E.bl).c; obtain ⟨v0, v1, v2, v3, v4⟩ := (b9.keep E.bl).c
          go_wp2_with fail
          refine (xe_cmpV E (.tail _ (.tail _ (.head _))) (.tail _ (.tail _ (.tail _ (.head _)))) HZ2.out (by omega) (by omega)).mono ?_
          rintro e wn ⟨rfl, En⟩
          clear E
          have E := En
          clear En
          (try clear x0 x1 x2 x3 x4); (try clear y0 y1 y2 y3 y4); (try clear z0 z1 z2 z3 z4); (try clear u0 u1 u2 u3 u4); (try clear v0 v1 v2 v3 v4); obtain ⟨x0, x1, x2, x3, x4⟩ := (bA.keep E.bl).c; obtain ⟨y0, y1, y2, y3, y4⟩ := (bB.keep E.bl).c; obtain ⟨z0, z1, z2, z3, z4⟩ := (bC.keep E.bl).c; obtain ⟨u0, u1, u2, u3, u4⟩ := (b8.keep E.bl).c; obtain ⟨v0, v1, v2, v3, v4⟩ := (b9.keep E.bl).c
          go_wp2_with fail
          refine (xe_cmpV E (.tail _ (.tail _ (.head _))) (.head _) HZN.out (by omega) (by omega)).mono ?_
          rintro e wn ⟨rfl, En⟩
          clear E
          have E := En
          clear En
          (try clear x0 x1 x2 x3 x4); (try clear y0 y1 y2 y3 y4); (try clear z0 z1 z2 z3 z4); (try clear u0 u1 u2 u3 u4); (try clear v0 v1 v2 v3 v4); obtain ⟨x0, x1, x2, x3, x4⟩ := (bA.keep E.bl).c; obtain ⟨y0, y1, y2, y3, y4⟩ := (bB.keep E.bl).c; obtain ⟨z0, z1, z2, z3, z4⟩ := (bC.keep E.bl).c; obtain ⟨u0, u1, u2, u3, u4⟩ := (b8.keep E.bl).c; obtain ⟨v0, v1, v2, v3, v4⟩ := (b9.keep E.bl).c
          go_upto_if 88 with fail
          by_cases hc0 : 0 < c
          · go_wp2_with fail
            refine (xe_awake E).mono ?_
            rintro e wn ⟨rfl, En⟩
            have HR := hid (below_call hWc En.bl hWc.size)
            clear E En
            (try clear x0 x1 x2 x3 x4); (try clear y0 y1 y2 y3 y4); (try clear z0 z1 z2 z3 z4); (try clear u0 u1 u2 u3 u4); (try clear v0 v1 v2 v3 v4)
            go_wp2
            go_ret
            exact ⟨rfl, HR.out⟩
          · have hc1 := HT.out (by omega)
            go_wp2_with fail
            refine (xe_cmpV E (.tail _ (.tail _ (.tail _ (.head _)))) (.tail _ (.tail _ (.head _))) HYZ.out (by omega) (by omega)).mono ?_
            rintro e wn ⟨rfl, En⟩
            clear E
            have E := En
            clear En
            (try clear x0 x1 x2 x3 x4); (try clear y0 y1 y2 y3 y4); (try clear z0 z1 z2 z3 z4); (try clear u0 u1 u2 u3 u4); (try clear v0 v1 v2 v3 v4); obtain ⟨x0, x1, x2, x3, x4⟩ := (bA.keep E.bl).c; obtain ⟨y0, y1, y2, y3, y4⟩ := (bB.keep E.bl).c; obtain ⟨z0, z1, z2, z3, z4⟩ := (bC.keep E.bl).c; obtain ⟨u0, u1, u2, u3, u4⟩ := (b8.keep E.bl).c; obtain ⟨v0, v1, v2, v3, v4⟩ := (b9.keep E.bl).c
            by_cases hc2 : 0 < f5
            · go_wp2_with fail
              refine (xe_awake E).mono ?_
              rintro e wn ⟨rfl, En⟩
              have HR := hid (below_call hWc En.bl hWc.size)
              clear E En
              (try clear x0 x1 x2 x3 x4); (try clear y0 y1 y2 y3 y4); (try clear z0 z1 z2 z3 z4); (try clear u0 u1 u2 u3 u4); (try clear v0 v1 v2 v3 v4)
              go_wp2
              go_ret
              exact ⟨rfl, HR.out⟩
            · have hc3 := hc1 (by omega)
              go_wp2_with fail
              refine (xe_cmpV E (.tail _ (.tail _ (.tail _ (.tail _ (.head _))))) (.tail _ (.tail _ (.head _))) HXZ.out (by omega) (by omega)).mono ?_
              rintro e wn ⟨rfl, En⟩
              clear E
              have E := En
              clear En
              (try clear x0 x1 x2 x3 x4); (try clear y0 y1 y2 y3 y4); (try clear z0 z1 z2 z3 z4); (try clear u0 u1 u2 u3 u4); (try clear v0 v1 v2 v3 v4); obtain ⟨x0, x1, x2, x3, x4⟩ := (bA.keep E.bl).c; obtain ⟨y0, y1, y2, y3, y4⟩ := (bB.keep E.bl).c; obtain ⟨z0, z1, z2, z3, z4⟩ := (bC.keep E.bl).c; obtain ⟨u0, u1, u2, u3, u4⟩ := (b8.keep E.bl).c; obtain ⟨v0, v1, v2, v3, v4⟩ := (b9.keep E.bl).c
              go_wp2_with fail
              refine (xe_awake E).mono ?_
              rintro e wn ⟨rfl, En⟩
              have HR := hid (below_call hWc En.bl hWc.size)
              clear E En
              (try clear x0 x1 x2 x3 x4); (try clear y0 y1 y2 y3 y4); (try clear z0 z1 z2 z3 z4); (try clear u0 u1 u2 u3 u4); (try clear v0 v1 v2 v3 v4)
              go_wp2
              go_ret
              exact ⟨rfl, HR.out⟩
        · have g2a : 0 < f2 := by omega
          refine (xe_cmpV E (.tail _ (.tail _ (.head _))) (.tail _ (.tail _ (.tail _ (.tail _ (.head _))))) HZ1.out (by omega) (by omega)).mono ?_
          rintro e wn ⟨rfl, En⟩
          clear E
          have E := En
          clear En
          (try clear x0 x1 x2 x3 x4); (try clear y0 y1 y2 y3 y4); (try clear z0 z1 z2 z3 z4); (try clear u0 u1 u2 u3 u4); (try clear v0 v1 v2 v3 v4); obtain ⟨x0, x1, x2, x3, x4⟩ := (bA.keep E.bl).c; obtain ⟨y0, y1, y2, y3, y4⟩ := (bB.keep E.bl).c; obtain ⟨z0, z1, z2, z3, z4⟩ := (bC.keep E.bl).c; obtain ⟨u0, u1, u2, u3, u4⟩ := (b8.keep E.bl).c; obtain ⟨v0, v1, v2, v3, v4⟩ := (b9.keep E.bl).c
          go_wp2_with fail
          refine (xe_cmpV E (.tail _ (.tail _ (.head _))) (.tail _ (.tail _ (.tail _ (.tail _ (.head _))))) HZ1.out (by omega) (by omega)).mono ?_
          rintro e wn ⟨rfl, En⟩
          clear E
          have E := En
          clear En
          (try clear x0 x1 x2 x3 x4); (try clear y0 y1 y2 y3 y4); (try clear z0 z1 z2 z3 z4); (try clear u0 u1 u2 u3 u4); (try clear v0 v1 v2 v3 v4); obtain ⟨x0, x1, x2, x3, x4⟩ := (bA.keep E.bl).c; obtain ⟨y0, y1, y2, y3, y4⟩ := (bB.keep E.bl).c; obtain ⟨z0, z1, z2, z3, z4⟩ := (bC.keep E.bl).c; obtain ⟨u0, u1, u2, u3, u4⟩ := (b8.keep E.bl).c; obtain ⟨v0, v1, v2, v3, v4⟩ := (b9.keep E.bl).c
          go_wp2_with fail
          refine (xe_cmpV E (.tail _ (.tail _ (.head _))) (.tail _ (.tail _ (.tail _ (.head _)))) HZ2.out (by omega) (by omega)).mono ?_
          rintro e wn ⟨rfl, En⟩
          clear E
          have E := En
          clear En
          (try clear x0 x1 x2 x3 x4); (try clear y0 y1 y2 y3 y4); (try clear z0 z1 z2 z3 z4); (try clear u0 u1 u2 u3 u4); (try clear v0 v1 v2 v3 v4); obtain ⟨x0, x1, x2, x3, x4⟩ := (bA.keep E.bl).c; obtain ⟨y0, y1, y2, y3, y4⟩ := (bB.keep E.bl).c; obtain ⟨z0, z1, z2, z3, z4⟩ := (bC.keep E.bl).c; obtain ⟨u0, u1, u2, u3, u4⟩ := (b8.keep E.bl).c; obtain ⟨v0, v1, v2, v3, v4⟩ := (b9.keep E.bl).c
          go_upto_if 88 with fail
          by_cases hc0 : 0 < c
          · go_wp2_with fail
            refine (xe_awake E).mono ?_
            rintro e wn ⟨rfl, En⟩
            have HR := hid (below_call hWc En.bl hWc.size)
            clear E En
            (try clear x0 x1 x2 x3 x4); (try clear y0 y1 y2 y3 y4); (try clear z0 z1 z2 z3 z4); (try clear u0 u1 u2 u3 u4); (try clear v0 v1 v2 v3 v4)
            go_wp2
            go_ret
            exact ⟨rfl, HR.out⟩
          · have hc1 := HT.out (by omega)
            go_wp2_with fail
            refine (xe_cmpV E (.tail _ (.tail _ (.tail _ (.head _)))) (.tail _ (.tail _ (.head _))) HYZ.out (by omega) (by omega)).mono ?_
            rintro e wn ⟨rfl, En⟩
            clear E
            have E := En
            clear En
            (try clear x0 x1 x2 x3 x4); (try clear y0 y1 y2 y3 y4); (try clear z0 z1 z2 z3 z4); (try clear u0 u1 u2 u3 u4); (try clear v0 v1 v2 v3 v4); obtain ⟨x0, x1, x2, x3, x4⟩ := (bA.keep E.bl).c; obtain ⟨y0, y1, y2, y3, y4⟩ := (bB.keep E.bl).c; obtain ⟨z0, z1, z2, z3, z4⟩ := (bC.keep E.bl).c; obtain ⟨u0, u1, u2, u3, u4⟩ := (b8.keep E.bl).c; obtain ⟨v0, v1, v2, v3, v4⟩ := (b9.keep E.bl).c
            by_cases hc2 : 0 < f5
            · go_wp2_with fail
              refine (xe_awake E).mono ?_
              rintro e wn ⟨rfl, En⟩
              have HR := hid (below_call hWc En.bl hWc.size)
              clear E En
              (try clear x0 x1 x2 x3 x4); (try clear y0 y1 y2 y3 y4); (try clear z0 z1 z2 z3 z4); (try clear u0 u1 u2 u3 u4); (try clear v0 v1 v2 v3 v4)
              go_wp2
              go_ret
              exact ⟨rfl, HR.out⟩
            · have hc3 := hc1 (by omega)
              go_wp2_with fail
              refine (xe_cmpV E (.tail _ (.tail _ (.tail _ (.tail _ (.head _))))) (.tail _ (.tail _ (.head _))) HXZ.out (by omega) (by omega)).mono ?_
              rintro e wn ⟨rfl, En⟩
              clear E
              have E := En
              clear En
              (try clear x0 x1 x2 x3 x4); (try clear y0 y1 y2 y3 y4); (try clear z0 z1 z2 z3 z4); (try clear u0 u1 u2 u3 u4); (try clear v0 v1 v2 v3 v4); obtain ⟨x0, x1, x2, x3, x4⟩ := (bA.keep E.bl).c; obtain ⟨y0, y1, y2, y3, y4⟩ := (bB.keep E.bl).c; obtain ⟨z0, z1, z2, z3, z4⟩ := (bC.keep E.bl).c; obtain ⟨u0, u1, u2, u3, u4⟩ := (b8.keep E.bl).c; obtain ⟨v0, v1, v2, v3, v4⟩ := (b9.keep E.bl).c
              go_wp2_with fail
              refine (xe_awake E).mono ?_
              rintro e wn ⟨rfl, En⟩
              have HR := hid (below_call hWc En.bl hWc.size)
              clear E En
              (try clear x0 x1 x2 x3 x4); (try clear y0 y1 y2 y3 y4); (try clear z0 z1 z2 z3 z4); (try clear u0 u1 u2 u3 u4); (try clear v0 v1 v2 v3 v4)
              go_wp2
              go_ret
              exact ⟨rfl, HR.out⟩
      · have g1a : 0 ≤ f1 := by omega
        by_cases g3 : 0 < f1
        · have g3a : ¬ f1 ≤ 0 := by omega
          by_cases g2 : 0 ≤ f2
          · have g4 : 0 ≤ f3 := HA.out g1a g2
            refine (xe_cmpV E (.tail _ (.tail _ (.head _))) (.tail _ (.tail _ (.tail _ (.tail _ (.head _))))) HZ1.out (by omega) (by omega)).mono ?_
            rintro e wn ⟨rfl, En⟩
            clear E
            have E := En
            clear En
            (try clear x0 x1 x2 x3 x4); (try clear y0 y1 y2 y3 y4); (try clear z0 z1 z2 z3 z4); (try clear u0 u1 u2 u3 u4); (try clear v0 v1 v2 v3 v4); obtain ⟨x0, x1, x2, x3, x4⟩ := (bA.keep E.bl).c; obtain ⟨y0, y1, y2, y3, y4⟩ := (bB.keep E.bl).c; obtain ⟨z0, z1, z2, z3, z4⟩ := (bC.keep E.bl).c; obtain ⟨u0, u1, u2, u3, u4⟩ := (b8.keep E.bl).c; obtain ⟨v0, v1, v2, v3, v4⟩ := (b9.keep E.bl).c
            go_wp2_with fail
            refine (xe_cmpV E (.tail _ (.tail _ (.head _))) (.tail _ (.tail _ (.tail _ (.head _)))) HZ2.out (by omega) (by omega)).mono ?_
            rintro e wn ⟨rfl, En⟩
            clear E
            have E := En
            clear En
            (try clear x0 x1 x2 x3 x4); (try clear y0 y1 y2 y3 y4); (try clear z0 z1 z2 z3 z4); (try clear u0 u1 u2 u3 u4); (try clear v0 v1 v2 v3 v4); obtain ⟨x0, x1, x2, x3, x4⟩ := (bA.keep E.bl).c; obtain ⟨y0, y1, y2, y3, y4⟩ := (bB.keep E.bl).c; obtain ⟨z0, z1, z2, z3, z4⟩ := (bC.keep E.bl).c; obtain ⟨u0, u1, u2, u3, u4⟩ := (b8.keep E.bl).c; obtain ⟨v0, v1, v2, v3, v4⟩ := (b9.keep E.bl).c
            go_wp2_with fail
            refine (xe_cmpV E (.tail _ (.tail _ (.head _))) (.tail _ (.head _)) HZM.out (by omega) (by omega)).mono ?_
            rintro e wn ⟨rfl, En⟩
            clear E
            have E := En
            clear En
            (try clear x0 x1 x2 x3 x4); (try clear y0 y1 y2 y3 y4); (try clear z0 z1 z2 z3 z4); (try clear u0 u1 u2 u3 u4); (try clear v0 v1 v2 v3 v4); obtain ⟨x0, x1, x2, x3, x4⟩ := (bA.keep E.bl).c; obtain ⟨y0, y1, y2, y3, y4⟩ := (bB.keep E.bl).c; obtain ⟨z0, z1, z2, z3, z4⟩ := (bC.keep E.bl).c; obtain ⟨u0, u1, u2, u3, u4⟩ := (b8.keep E.bl).c; obtain ⟨v0, v1, v2, v3, v4⟩ := (b9.keep E.bl).c
            go_wp2_with fail
            refine (xe_cmpV E (.tail _ (.tail _ (.head _))) (.tail _ (.tail _ (.tail _ (.tail _ (.head _))))) HZ1.out (by omega) (by omega)).mono ?_
            rintro e wn ⟨rfl, En⟩
            clear E
            have E := En
            clear En
            (try clear x0 x1 x2 x3 x4); (try clear y0 y1 y2 y3 y4); (try clear z0 z1 z2 z3 z4); (try clear u0 u1 u2 u3 u4); (try clear v0 v1 v2 v3 v4); obtain ⟨x0, x1, x2, x3, x4⟩ := (bA.keep E.bl).c; obtain ⟨y0, y1, y2, y3, y4⟩ := (bB.keep E.bl).c; obtain ⟨z0, z1, z2, z3, z4⟩ := (bC.keep E.bl).c; obtain ⟨u0, u1, u2, u3, u4⟩ := (b8.keep E.bl).c; obtain ⟨v0, v1, v2, v3, v4⟩ := (b9.keep E.bl).c
            go_upto_if 88 with fail
            by_cases hc0 : 0 < c
            · go_wp2_with fail
              refine (xe_awake E).mono ?_
              rintro e wn ⟨rfl, En⟩
              have HR := hid (below_call hWc En.bl hWc.size)
              clear E En
              (try clear x0 x1 x2 x3 x4); (try clear y0 y1 y2 y3 y4); (try clear z0 z1 z2 z3 z4); (try clear u0 u1 u2 u3 u4); (try clear v0 v1 v2 v3 v4)
              go_wp2
              go_ret
              exact ⟨rfl, HR.out⟩
            · have hc1 := HT.out (by omega)
              go_wp2_with fail
              refine (xe_cmpV E (.tail _ (.tail _ (.tail _ (.head _)))) (.tail _ (.tail _ (.head _))) HYZ.out (by omega) (by omega)).mono ?_
              rintro e wn ⟨rfl, En⟩
              clear E
              have E := En
              clear En
              (try clear x0 x1 x2 x3 x4); (try clear y0 y1 y2 y3 y4); (try clear z0 z1 z2 z3 z4); (try clear u0 u1 u2 u3 u4); (try clear v0 v1 v2 v3 v4); obtain ⟨x0, x1, x2, x3, x4⟩ := (bA.keep E.bl).c; obtain ⟨y0, y1, y2, y3, y4⟩ := (bB.keep E.bl).c; obtain ⟨z0, z1, z2, z3, z4⟩ := (bC.keep E.bl).c; obtain ⟨u0, u1, u2, u3, u4⟩ := (b8.keep E.bl).c; obtain ⟨v0, v1, v2, v3, v4⟩ := (b9.keep E.bl).c
              by_cases hc2 : 0 < f5
              · go_wp2_with fail
                refine (xe_awake E).mono ?_
                rintro e wn ⟨rfl, En⟩
                have HR := hid (below_call hWc En.bl hWc.size)
                clear E En
                (try clear x0 x1 x2 x3 x4); (try clear y0 y1 y2 y3 y4); (try clear z0 z1 z2 z3 z4); (try clear u0 u1 u2 u3 u4); (try clear v0 v1 v2 v3 v4)
                go_wp2
                go_ret
                exact ⟨rfl, HR.out⟩
              · have hc3 := hc1 (by omega)
                go_wp2_with fail
                refine (xe_cmpV E (.tail _ (.tail _ (.tail _ (.tail _ (.head _))))) (.tail _ (.tail _ (.head _))) HXZ.out (by omega) (by omega)).mono ?_
                rintro e wn ⟨rfl, En⟩
                clear E
                have E := En
                clear En
                (try clear x0 x1 x2 x3 x4); (try clear y0 y1 y2 y3 y4); (try clear z0 z1 z2 z3 z4); (try clear u0 u1 u2 u3 u4); (try clear v0 v1 v2 v3 v4); obtain ⟨x0, x1, x2, x3, x4⟩ := (bA.keep E.bl).c; obtain ⟨y0, y1, y2, y3, y4⟩ := (bB.keep E.bl).c; obtain ⟨z0, z1, z2, z3, z4⟩ := (bC.keep E.bl).c; obtain ⟨u0, u1, u2, u3, u4⟩ := (b8.keep E.bl).c; obtain ⟨v0, v1, v2, v3, v4⟩ := (b9.keep E.bl).c
                go_wp2_with fail
                refine (xe_awake E).mono ?_
                rintro e wn ⟨rfl, En⟩
                have HR := hid (below_call hWc En.bl hWc.size)
                clear E En
                (try clear x0 x1 x2 x3 x4); (try clear y0 y1 y2 y3 y4); (try clear z0 z1 z2 z3 z4); (try clear u0 u1 u2 u3 u4); (try clear v0 v1 v2 v3 v4)
                go_wp2
                go_ret
                exact ⟨rfl, HR.out⟩
          · have g2a : f2 < 0 := by omega
            refine (xe_cmpV E (.tail _ (.tail _ (.head _))) (.tail _ (.tail _ (.tail _ (.tail _ (.head _))))) HZ1.out (by omega) (by omega)).mono ?_
            rintro e wn ⟨rfl, En⟩
            clear E
            have E := En
            clear En
            (try clear x0 x1 x2 x3 x4); (try clear y0 y1 y2 y3 y4); (try clear z0 z1 z2 z3 z4); (try clear u0 u1 u2 u3 u4); (try clear v0 v1 v2 v3 v4); obtain ⟨x0, x1, x2, x3, x4⟩ := (bA.keep E.bl).c; obtain ⟨y0, y1, y2, y3, y4⟩ := (bB.keep E.bl).c; obtain ⟨z0, z1, z2, z3, z4⟩ := (bC.keep E.bl).c; obtain ⟨u0, u1, u2, u3, u4⟩ := (b8.keep E.bl).c; obtain ⟨v0, v1, v2, v3, v4⟩ := (b9.keep E.bl).c
            go_wp2_with fail
            refine (xe_cmpV E (.tail _ (.tail _ (.head _))) (.tail _ (.tail _ (.tail _ (.head _)))) HZ2.out (by omega) (by omega)).mono ?_
            rintro e wn ⟨rfl, En⟩
            clear E
            have E := En
            clear En
            (try clear x0 x1 x2 x3 x4); (try clear y0 y1 y2 y3 y4); (try clear z0 z1 z2 z3 z4); (try clear u0 u1 u2 u3 u4); (try clear v0 v1 v2 v3 v4); obtain ⟨x0, x1, x2, x3, x4⟩ := (bA.keep E.bl).c; obtain ⟨y0, y1, y2, y3, y4⟩ := (bB.keep E.bl).c; obtain ⟨z0, z1, z2, z3, z4⟩ := (bC.keep E.bl).c; obtain ⟨u0, u1, u2, u3, u4⟩ := (b8.keep E.bl).c; obtain ⟨v0, v1, v2, v3, v4⟩ := (b9.keep E.bl).c
            go_wp2_with fail
            refine (xe_cmpV E (.tail _ (.tail _ (.head _))) (.tail _ (.tail _ (.tail _ (.tail _ (.head _))))) HZ1.out (by omega) (by omega)).mono ?_
            rintro e wn ⟨rfl, En⟩
            clear E
            have E := En
            clear En
            (try clear x0 x1 x2 x3 x4); (try clear y0 y1 y2 y3 y4); (try clear z0 z1 z2 z3 z4); (try clear u0 u1 u2 u3 u4); (try clear v0 v1 v2 v3 v4); obtain ⟨x0, x1, x2, x3, x4⟩ := (bA.keep E.bl).c; obtain ⟨y0, y1, y2, y3, y4⟩ := (bB.keep E.bl).c; obtain ⟨z0, z1, z2, z3, z4⟩ := (bC.keep E.bl).c; obtain ⟨u0, u1, u2, u3, u4⟩ := (b8.keep E.bl).c; obtain ⟨v0, v1, v2, v3, v4⟩ := (b9.keep E.bl).c
            go_upto_if 88 with fail
            by_cases hc0 : 0 < c
            · go_wp2_with fail
              refine (xe_awake E).mono ?_
              rintro e wn ⟨rfl, En⟩
              have HR := hid (below_call hWc En.bl hWc.size)
              clear E En
              (try clear x0 x1 x2 x3 x4); (try clear y0 y1 y2 y3 y4); (try clear z0 z1 z2 z3 z4); (try clear u0 u1 u2 u3 u4); (try clear v0 v1 v2 v3 v4)
              go_wp2
              go_ret
              exact ⟨rfl, HR.out⟩
            · have hc1 := HT.out (by omega)
              go_wp2_with fail
              refine (xe_cmpV E (.tail _ (.tail _ (.tail _ (.head _)))) (.tail _ (.tail _ (.head _))) HYZ.out (by omega) (by omega)).mono ?_
              rintro e wn ⟨rfl, En⟩
              clear E
              have E := En
              clear En
              (try clear x0 x1 x2 x3 x4); (try clear y0 y1 y2 y3 y4); (try clear z0 z1 z2 z3 z4); (try clear u0 u1 u2 u3 u4); (try clear v0 v1 v2 v3 v4); obtain ⟨x0, x1, x2, x3, x4⟩ := (bA.keep E.bl).c; obtain ⟨y0, y1, y2, y3, y4⟩ := (bB.keep E.bl).c; obtain ⟨z0, z1, z2, z3, z4⟩ := (bC.keep E.bl).c; obtain ⟨u0, u1, u2, u3, u4⟩ := (b8.keep E.bl).c; obtain ⟨v0, v1, v2, v3, v4⟩ := (b9.keep E.bl).c
              by_cases hc2 : 0 < f5
              · go_wp2_with fail
                refine (xe_awake E).mono ?_
                rintro e wn ⟨rfl, En⟩
                have HR := hid (below_call hWc En.bl hWc.size)
                clear E En
                (try clear x0 x1 x2 x3 x4); (try clear y0 y1 y2 y3 y4); (try clear z0 z1 z2 z3 z4); (try clear u0 u1 u2 u3 u4); (try clear v0 v1 v2 v3 v4)
                go_wp2
                go_ret
                exact ⟨rfl, HR.out⟩
              · have hc3 := hc1 (by omega)
                go_wp2_with fail
                refine (xe_cmpV E (.tail _ (.tail _ (.tail _ (.tail _ (.head _))))) (.tail _ (.tail _ (.head _))) HXZ.out (by omega) (by omega)).mono ?_
                rintro e wn ⟨rfl, En⟩
                clear E
                have E := En
                clear En
                (try clear x0 x1 x2 x3 x4); (try clear y0 y1 y2 y3 y4); (try clear z0 z1 z2 z3 z4); (try clear u0 u1 u2 u3 u4); (try clear v0 v1 v2 v3 v4); obtain ⟨x0, x1, x2, x3, x4⟩ := (bA.keep E.bl).c; obtain ⟨y0, y1, y2, y3, y4⟩ := (bB.keep E.bl).c; obtain ⟨z0, z1, z2, z3, z4⟩ := (bC.keep E.bl).c; obtain ⟨u0, u1, u2, u3, u4⟩ := (b8.keep E.bl).c; obtain ⟨v0, v1, v2, v3, v4⟩ := (b9.keep E.bl).c
                go_wp2_with fail
                refine (xe_awake E).mono ?_
                rintro e wn ⟨rfl, En⟩
                have HR := hid (below_call hWc En.bl hWc.size)
                clear E En
                (try clear x0 x1 x2 x3 x4); (try clear y0 y1 y2 y3 y4); (try clear z0 z1 z2 z3 z4); (try clear u0 u1 u2 u3 u4); (try clear v0 v1 v2 v3 v4)
                go_wp2
                go_ret
                exact ⟨rfl, HR.out⟩
        · have g3a : f1 ≤ 0 := by omega
          by_cases g2 : f2 < 0
          · have g2a : ¬ 0 ≤ f2 := by omega
            have g2b : f2 ≤ 0 := by omega
            have g4 : f4 ≤ 0 := HB.out g3a g2b
            refine (xe_cmpV E (.tail _ (.tail _ (.head _))) (.tail _ (.tail _ (.tail _ (.tail _ (.head _))))) HZ1.out (by omega) (by omega)).mono ?_
            rintro e wn ⟨rfl, En⟩
            clear E
            have E := En
            clear En
            (try clear x0 x1 x2 x3 x4); (try clear y0 y1 y2 y3 y4); (try clear z0 z1 z2 z3 z4); (try clear u0 u1 u2 u3 u4); (try clear v0 v1 v2 v3 v4); obtain ⟨x0, x1, x2, x3, x4⟩ := (bA.keep E.bl).c; obtain ⟨y0, y1, y2, y3, y4⟩ := (bB.keep E.bl).c; obtain ⟨z0, z1, z2, z3, z4⟩ := (bC.keep E.bl).c; obtain ⟨u0, u1, u2, u3, u4⟩ := (b8.keep E.bl).c; obtain ⟨v0, v1, v2, v3, v4⟩ := (b9.keep E.bl).c
            go_wp2_with fail
            refine (xe_cmpV E (.tail _ (.tail _ (.head _))) (.tail _ (.tail _ (.tail _ (.head _)))) HZ2.out (by omega) (by omega)).mono ?_
            rintro e wn ⟨rfl, En⟩
            clear E
            have E := En
            clear En
            (try clear x0 x1 x2 x3 x4); (try clear y0 y1 y2 y3 y4); (try clear z0 z1 z2 z3 z4); (try clear u0 u1 u2 u3 u4); (try clear v0 v1 v2 v3 v4); obtain ⟨x0, x1, x2, x3, x4⟩ := (bA.keep E.bl).c; obtain ⟨y0, y1, y2, y3, y4⟩ := (bB.keep E.bl).c; obtain ⟨z0, z1, z2, z3, z4⟩ := (bC.keep E.bl).c; obtain ⟨u0, u1, u2, u3, u4⟩ := (b8.keep E.bl).c; obtain ⟨v0, v1, v2, v3, v4⟩ := (b9.keep E.bl).c
            go_wp2_with fail
            refine (xe_cmpV E (.tail _ (.tail _ (.head _))) (.tail _ (.tail _ (.tail _ (.tail _ (.head _))))) HZ1.out (by omega) (by omega)).mono ?_
            rintro e wn ⟨rfl, En⟩
            clear E
            have E := En
            clear En
            (try clear x0 x1 x2 x3 x4); (try clear y0 y1 y2 y3 y4); (try clear z0 z1 z2 z3 z4); (try clear u0 u1 u2 u3 u4); (try clear v0 v1 v2 v3 v4); obtain ⟨x0, x1, x2, x3, x4⟩ := (bA.keep E.bl).c; obtain ⟨y0, y1, y2, y3, y4⟩ := (bB.keep E.bl).c; obtain ⟨z0, z1, z2, z3, z4⟩ := (bC.keep E.bl).c; obtain ⟨u0, u1, u2, u3, u4⟩ := (b8.keep E.bl).c; obtain ⟨v0, v1, v2, v3, v4⟩ := (b9.keep E.bl).c
            go_wp2_with fail
            refine (xe_cmpV E (.tail _ (.tail _ (.head _))) (.tail _ (.tail _ (.tail _ (.head _)))) HZ2.out (by omega) (by omega)).mono ?_
            rintro e wn ⟨rfl, En⟩
            clear E
            have E := En
            clear En
            (try clear x0 x1 x2 x3 x4); (try clear y0 y1 y2 y3 y4); (try clear z0 z1 z2 z3 z4); (try clear u0 u1 u2 u3 u4); (try clear v0 v1 v2 v3 v4); obtain ⟨x0, x1, x2, x3, x4⟩ := (bA.keep E.bl).c; obtain ⟨y0, y1, y2, y3, y4⟩ := (bB.keep E.bl).c; obtain ⟨z0, z1, z2, z3, z4⟩ := (bC.keep E.bl).c; obtain ⟨u0, u1, u2, u3, u4⟩ := (b8.keep E.bl).c; obtain ⟨v0, v1, v2, v3, v4⟩ := (b9.keep E.bl).c
            go_wp2_with fail
            refine (xe_cmpV E (.tail _ (.tail _ (.head _))) (.head _) HZN.out (by omega) (by omega)).mono ?_
            rintro e wn ⟨rfl, En⟩
            clear E
            have E := En
            clear En
            (try clear x0 x1 x2 x3 x4); (try clear y0 y1 y2 y3 y4); (try clear z0 z1 z2 z3 z4); (try clear u0 u1 u2 u3 u4); (try clear v0 v1 v2 v3 v4); obtain ⟨x0, x1, x2, x3, x4⟩ := (bA.keep E.bl).c; obtain ⟨y0, y1, y2, y3, y4⟩ := (bB.keep E.bl).c; obtain ⟨z0, z1, z2, z3, z4⟩ := (bC.keep E.bl).c; obtain ⟨u0, u1, u2, u3, u4⟩ := (b8.keep E.bl).c; obtain ⟨v0, v1, v2, v3, v4⟩ := (b9.keep E.bl).c
            go_upto_if 88 with fail
            by_cases hc0 : 0 < c
            · go_wp2_with fail
              refine (xe_awake E).mono ?_
              rintro e wn ⟨rfl, En⟩
              have HR := hid (below_call hWc En.bl hWc.size)
              clear E En
              (try clear x0 x1 x2 x3 x4); (try clear y0 y1 y2 y3 y4); (try clear z0 z1 z2 z3 z4); (try clear u0 u1 u2 u3 u4); (try clear v0 v1 v2 v3 v4)
              go_wp2
              go_ret
              exact ⟨rfl, HR.out⟩
            · have hc1 := HT.out (by omega)
              go_wp2_with fail
              refine (xe_cmpV E (.tail _ (.tail _ (.tail _ (.head _)))) (.tail _ (.tail _ (.head _))) HYZ.out (by omega) (by omega)).mono ?_
              rintro e wn ⟨rfl, En⟩
              clear E
              have E := En
              clear En
              (try clear x0 x1 x2 x3 x4); (try clear y0 y1 y2 y3 y4); (try clear z0 z1 z2 z3 z4); (try clear u0 u1 u2 u3 u4); (try clear v0 v1 v2 v3 v4); obtain ⟨x0, x1, x2, x3, x4⟩ := (bA.keep E.bl).c; obtain ⟨y0, y1, y2, y3, y4⟩ := (bB.keep E.bl).c; obtain ⟨z0, z1, z2, z3, z4⟩ := (bC.keep E.bl).c; obtain ⟨u0, u1, u2, u3, u4⟩ := (b8.keep E.bl).c; obtain ⟨v0, v1, v2, v3, v4⟩ := (b9.keep E.bl).c
              by_cases hc2 : 0 < f5
              · go_wp2_with fail
                refine (xe_awake E).mono ?_
                rintro e wn ⟨rfl, En⟩
                have HR := hid (below_call hWc En.bl hWc.size)
                clear E En
                (try clear x0 x1 x2 x3 x4); (try clear y0 y1 y2 y3 y4); (try clear z0 z1 z2 z3 z4); (try clear u0 u1 u2 u3 u4); (try clear v0 v1 v2 v3 v4)
                go_wp2
                go_ret
                exact ⟨rfl, HR.out⟩
              · have hc3 := hc1 (by omega)
                go_wp2_with fail
                refine (xe_cmpV E (.tail _ (.tail _ (.tail _ (.tail _ (.head _))))) (.tail _ (.tail _ (.head _))) HXZ.out (by omega) (by omega)).mono ?_
                rintro e wn ⟨rfl, En⟩
                clear E
                have E := En
                clear En
                (try clear x0 x1 x2 x3 x4); (try clear y0 y1 y2 y3 y4); (try clear z0 z1 z2 z3 z4); (try clear u0 u1 u2 u3 u4); (try clear v0 v1 v2 v3 v4); obtain ⟨x0, x1, x2, x3, x4⟩ := (bA.keep E.bl).c; obtain ⟨y0, y1, y2, y3, y4⟩ := (bB.keep E.bl).c; obtain ⟨z0, z1, z2, z3, z4⟩ := (bC.keep E.bl).c; obtain ⟨u0, u1, u2, u3, u4⟩ := (b8.keep E.bl).c; obtain ⟨v0, v1, v2, v3, v4⟩ := (b9.keep E.bl).c
                go_wp2_with fail
                refine (xe_awake E).mono ?_
                rintro e wn ⟨rfl, En⟩
                have HR := hid (below_call hWc En.bl hWc.size)
                clear E En
                (try clear x0 x1 x2 x3 x4); (try clear y0 y1 y2 y3 y4); (try clear z0 z1 z2 z3 z4); (try clear u0 u1 u2 u3 u4); (try clear v0 v1 v2 v3 v4)
                go_wp2
                go_ret
                exact ⟨rfl, HR.out⟩
          · have g2a : 0 ≤ f2 := by omega
            have g5 : 0 ≤ f3 := HA.out g1a g2a
            by_cases g6 : 0 < f2
            · have g6a : ¬ f2 ≤ 0 := by omega
              refine (xe_cmpV E (.tail _ (.tail _ (.head _))) (.tail _ (.tail _ (.tail _ (.tail _ (.head _))))) HZ1.out (by omega) (by omega)).mono ?_
              rintro e wn ⟨rfl, En⟩
              clear E
              have E := En
              clear En
              (try clear x0 x1 x2 x3 x4); (try clear y0 y1 y2 y3 y4); (try clear z0 z1 z2 z3 z4); (try clear u0 u1 u2 u3 u4); (try clear v0 v1 v2 v3 v4); obtain ⟨x0, x1, x2, x3, x4⟩ := (bA.keep E.bl).c; obtain ⟨y0, y1, y2, y3, y4⟩ := (bB.keep E.bl).c; obtain ⟨z0, z1, z2, z3, z4⟩ := (bC.keep E.bl).c; obtain ⟨u0, u1, u2, u3, u4⟩ := (b8.keep E.bl).c; obtain ⟨v0, v1, v2, v3, v4⟩ := (b9.keep E.bl).c
              go_wp2_with fail
              refine (xe_cmpV E (.tail _ (.tail _ (.head _))) (.tail _ (.tail _ (.tail _ (.head _)))) HZ2.out (by omega) (by omega)).mono ?_
              rintro e wn ⟨rfl, En⟩
              clear E
              have E := En
              clear En
              (try clear x0 x1 x2 x3 x4); (try clear y0 y1 y2 y3 y4); (try clear z0 z1 z2 z3 z4); (try clear u0 u1 u2 u3 u4); (try clear v0 v1 v2 v3 v4); obtain ⟨x0, x1, x2, x3, x4⟩ := (bA.keep E.bl).c; obtain ⟨y0, y1, y2, y3, y4⟩ := (bB.keep E.bl).c; obtain ⟨z0, z1, z2, z3, z4⟩ := (bC.keep E.bl).c; obtain ⟨u0, u1, u2, u3, u4⟩ := (b8.keep E.bl).c; obtain ⟨v0, v1, v2, v3, v4⟩ := (b9.keep E.bl).c
              go_wp2_with fail
              refine (xe_cmpV E (.tail _ (.tail _ (.head _))) (.tail _ (.head _)) HZM.out (by omega) (by omega)).mono ?_
              rintro e wn ⟨rfl, En⟩
              clear E
              have E := En
              clear En
              (try clear x0 x1 x2 x3 x4); (try clear y0 y1 y2 y3 y4); (try clear z0 z1 z2 z3 z4); (try clear u0 u1 u2 u3 u4); (try clear v0 v1 v2 v3 v4); obtain ⟨x0, x1, x2, x3, x4⟩ := (bA.keep E.bl).c; obtain ⟨y0, y1, y2, y3, y4⟩ := (bB.keep E.bl).c; obtain ⟨z0, z1, z2, z3, z4⟩ := (bC.keep E.bl).c; obtain ⟨u0, u1, u2, u3, u4⟩ := (b8.keep E.bl).c; obtain ⟨v0, v1, v2, v3, v4⟩ := (b9.keep E.bl).c
              go_wp2_with fail
              refine (xe_cmpV E (.tail _ (.tail _ (.head _))) (.tail _ (.tail _ (.tail _ (.tail _ (.head _))))) HZ1.out (by omega) (by omega)).mono ?_
              rintro e wn ⟨rfl, En⟩
              clear E
              have E := En
              clear En
              (try clear x0 x1 x2 x3 x4); (try clear y0 y1 y2 y3 y4); (try clear z0 z1 z2 z3 z4); (try clear u0 u1 u2 u3 u4); (try clear v0 v1 v2 v3 v4); obtain ⟨x0, x1, x2, x3, x4⟩ := (bA.keep E.bl).c; obtain ⟨y0, y1, y2, y3, y4⟩ := (bB.keep E.bl).c; obtain ⟨z0, z1, z2, z3, z4⟩ := (bC.keep E.bl).c; obtain ⟨u0, u1, u2, u3, u4⟩ := (b8.keep E.bl).c; obtain ⟨v0, v1, v2, v3, v4⟩ := (b9.keep E.bl).c
              go_wp2_with fail
              refine (xe_cmpV E (.tail _ (.tail _ (.head _))) (.tail _ (.tail _ (.tail _ (.head _)))) HZ2.out (by omega) (by omega)).mono ?_
              rintro e wn ⟨rfl, En⟩
              clear E
              have E := En
              clear En
              (try clear x0 x1 x2 x3 x4); (try clear y0 y1 y2 y3 y4); (try clear z0 z1 z2 z3 z4); (try clear u0 u1 u2 u3 u4); (try clear v0 v1 v2 v3 v4); obtain ⟨x0, x1, x2, x3, x4⟩ := (bA.keep E.bl).c; obtain ⟨y0, y1, y2, y3, y4⟩ := (bB.keep E.bl).c; obtain ⟨z0, z1, z2, z3, z4⟩ := (bC.keep E.bl).c; obtain ⟨u0, u1, u2, u3, u4⟩ := (b8.keep E.bl).c; obtain ⟨v0, v1, v2, v3, v4⟩ := (b9.keep E.bl).c
              go_upto_if 88 with fail
              by_cases hc0 : 0 < c
              · go_wp2_with fail
                refine (xe_awake E).mono ?_
                rintro e wn ⟨rfl, En⟩
                have HR := hid (below_call hWc En.bl hWc.size)
                clear E En
                (try clear x0 x1 x2 x3 x4); (try clear y0 y1 y2 y3 y4); (try clear z0 z1 z2 z3 z4); (try clear u0 u1 u2 u3 u4); (try clear v0 v1 v2 v3 v4)
                go_wp2
                go_ret
                exact ⟨rfl, HR.out⟩
              · have hc1 := HT.out (by omega)
                go_wp2_with fail
                refine (xe_cmpV E (.tail _ (.tail _ (.tail _ (.head _)))) (.tail _ (.tail _ (.head _))) HYZ.out (by omega) (by omega)).mono ?_
                rintro e wn ⟨rfl, En⟩
                clear E
                have E := En
                clear En
                (try clear x0 x1 x2 x3 x4); (try clear y0 y1 y2 y3 y4); (try clear z0 z1 z2 z3 z4); (try clear u0 u1 u2 u3 u4); (try clear v0 v1 v2 v3 v4); obtain ⟨x0, x1, x2, x3, x4⟩ := (bA.keep E.bl).c; obtain ⟨y0, y1, y2, y3, y4⟩ := (bB.keep E.bl).c; obtain ⟨z0, z1, z2, z3, z4⟩ := (bC.keep E.bl).c; obtain ⟨u0, u1, u2, u3, u4⟩ := (b8.keep E.bl).c; obtain ⟨v0, v1, v2, v3, v4⟩ := (b9.keep E.bl).c
                by_cases hc2 : 0 < f5
                · go_wp2_with fail
                  refine (xe_awake E).mono ?_
                  rintro e wn ⟨rfl, En⟩
                  have HR := hid (below_call hWc En.bl hWc.size)
                  clear E En
                  (try clear x0 x1 x2 x3 x4); (try clear y0 y1 y2 y3 y4); (try clear z0 z1 z2 z3 z4); (try clear u0 u1 u2 u3 u4); (try clear v0 v1 v2 v3 v4)
                  go_wp2
                  go_ret
                  exact ⟨rfl, HR.out⟩
                · have hc3 := hc1 (by omega)
                  go_wp2_with fail
                  refine (xe_cmpV E (.tail _ (.tail _ (.tail _ (.tail _ (.head _))))) (.tail _ (.tail _ (.head _))) HXZ.out (by omega) (by omega)).mono ?_
                  rintro e wn ⟨rfl, En⟩
                  clear E
                  have E := En
                  clear En
                  (try clear x0 x1 x2 x3 x4); (try clear y0 y1 y2 y3 y4); (try clear z0 z1 z2 z3 z4); (try clear u0 u1 u2 u3 u4); (try clear v0 v1 v2 v3 v4); obtain ⟨x0, x1, x2, x3, x4⟩ := (bA.keep E.bl).c; obtain ⟨y0, y1, y2, y3, y4⟩ := (bB.keep E.bl).c; obtain ⟨z0, z1, z2, z3, z4⟩ := (bC.keep E.bl).c; obtain ⟨u0, u1, u2, u3, u4⟩ := (b8.keep E.bl).c; obtain ⟨v0, v1, v2, v3, v4⟩ := (b9.keep E.bl).c
                  go_wp2_with fail
                  refine (xe_awake E).mono ?_
                  rintro e wn ⟨rfl, En⟩
                  have HR := hid (below_call hWc En.bl hWc.size)
                  clear E En
                  (try clear x0 x1 x2 x3 x4); (try clear y0 y1 y2 y3 y4); (try clear z0 z1 z2 z3 z4); (try clear u0 u1 u2 u3 u4); (try clear v0 v1 v2 v3 v4)
                  go_wp2
                  go_ret
                  exact ⟨rfl, HR.out⟩
            · have g6a : f2 ≤ 0 := by omega
              have g4 : f4 ≤ 0 := HB.out g3a g6a
              refine (xe_cmpV E (.tail _ (.tail _ (.head _))) (.tail _ (.tail _ (.tail _ (.tail _ (.head _))))) HZ1.out (by omega) (by omega)).mono ?_
              rintro e wn ⟨rfl, En⟩
              clear E
              have E := En
              clear En
              (try clear x0 x1 x2 x3 x4); (try clear y0 y1 y2 y3 y4); (try clear z0 z1 z2 z3 z4); (try clear u0 u1 u2 u3 u4); (try clear v0 v1 v2 v3 v4); obtain ⟨x0, x1, x2, x3, x4⟩ := (bA.keep E.bl).c; obtain ⟨y0, y1, y2, y3, y4⟩ := (bB.keep E.bl).c; obtain ⟨z0, z1, z2, z3, z4⟩ := (bC.keep E.bl).c; obtain ⟨u0, u1, u2, u3, u4⟩ := (b8.keep E.bl).c; obtain ⟨v0, v1, v2, v3, v4⟩ := (b9.keep E.bl).c
              go_wp2_with fail
              refine (xe_cmpV E (.tail _ (.tail _ (.head _))) (.tail _ (.tail _ (.tail _ (.head _)))) HZ2.out (by omega) (by omega)).mono ?_
              rintro e wn ⟨rfl, En⟩
              clear E
              have E := En
              clear En
              (try clear x0 x1 x2 x3 x4); (try clear y0 y1 y2 y3 y4); (try clear z0 z1 z2 z3 z4); (try clear u0 u1 u2 u3 u4); (try clear v0 v1 v2 v3 v4); obtain ⟨x0, x1, x2, x3, x4⟩ := (bA.keep E.bl).c; obtain ⟨y0, y1, y2, y3, y4⟩ := (bB.keep E.bl).c; obtain ⟨z0, z1, z2, z3, z4⟩ := (bC.keep E.bl).c; obtain ⟨u0, u1, u2, u3, u4⟩ := (b8.keep E.bl).c; obtain ⟨v0, v1, v2, v3, v4⟩ := (b9.keep E.bl).c
              go_wp2_with fail
              refine (xe_cmpV E (.tail _ (.tail _ (.head _))) (.tail _ (.head _)) HZM.out (by omega) (by omega)).mono ?_
              rintro e wn ⟨rfl, En⟩
              clear E
              have E := En
              clear En
              (try clear x0 x1 x2 x3 x4); (try clear y0 y1 y2 y3 y4); (try clear z0 z1 z2 z3 z4); (try clear u0 u1 u2 u3 u4); (try clear v0 v1 v2 v3 v4); obtain ⟨x0, x1, x2, x3, x4⟩ := (bA.keep E.bl).c; obtain ⟨y0, y1, y2, y3, y4⟩ := (bB.keep E.bl).c; obtain ⟨z0, z1, z2, z3, z4⟩ := (bC.keep E.bl).c; obtain ⟨u0, u1, u2, u3, u4⟩ := (b8.keep E.bl).c; obtain ⟨v0, v1, v2, v3, v4⟩ := (b9.keep E.bl).c
              go_wp2_with fail
              refine (xe_cmpV E (.tail _ (.tail _ (.head _))) (.tail _ (.tail _ (.tail _ (.tail _ (.head _))))) HZ1.out (by omega) (by omega)).mono ?_
              rintro e wn ⟨rfl, En⟩
              clear E
              have E := En
              clear En
              (try clear x0 x1 x2 x3 x4); (try clear y0 y1 y2 y3 y4); (try clear z0 z1 z2 z3 z4); (try clear u0 u1 u2 u3 u4); (try clear v0 v1 v2 v3 v4); obtain ⟨x0, x1, x2, x3, x4⟩ := (bA.keep E.bl).c; obtain ⟨y0, y1, y2, y3, y4⟩ := (bB.keep E.bl).c; obtain ⟨z0, z1, z2, z3, z4⟩ := (bC.keep E.bl).c; obtain ⟨u0, u1, u2, u3, u4⟩ := (b8.keep E.bl).c; obtain ⟨v0, v1, v2, v3, v4⟩ := (b9.keep E.bl).c
              go_wp2_with fail
              refine (xe_cmpV E (.tail _ (.tail _ (.head _))) (.tail _ (.tail _ (.tail _ (.head _)))) HZ2.out (by omega) (by omega)).mono ?_
              rintro e wn ⟨rfl, En⟩
              clear E
              have E := En
              clear En
              (try clear x0 x1 x2 x3 x4); (try clear y0 y1 y2 y3 y4); (try clear z0 z1 z2 z3 z4); (try clear u0 u1 u2 u3 u4); (try clear v0 v1 v2 v3 v4); obtain ⟨x0, x1, x2, x3, x4⟩ := (bA.keep E.bl).c; obtain ⟨y0, y1, y2, y3, y4⟩ := (bB.keep E.bl).c; obtain ⟨z0, z1, z2, z3, z4⟩ := (bC.keep E.bl).c; obtain ⟨u0, u1, u2, u3, u4⟩ := (b8.keep E.bl).c; obtain ⟨v0, v1, v2, v3, v4⟩ := (b9.keep E.bl).c
              go_wp2_with fail
              refine (xe_cmpV E (.tail _ (.tail _ (.head _))) (.head _) HZN.out (by omega) (by omega)).mono ?_
              rintro e wn ⟨rfl, En⟩
              clear E
              have E := En
              clear En
              (try clear x0 x1 x2 x3 x4); (try clear y0 y1 y2 y3 y4); (try clear z0 z1 z2 z3 z4); (try clear u0 u1 u2 u3 u4); (try clear v0 v1 v2 v3 v4); obtain ⟨x0, x1, x2, x3, x4⟩ := (bA.keep E.bl).c; obtain ⟨y0, y1, y2, y3, y4⟩ := (bB.keep E.bl).c; obtain ⟨z0, z1, z2, z3, z4⟩ := (bC.keep E.bl).c; obtain ⟨u0, u1, u2, u3, u4⟩ := (b8.keep E.bl).c; obtain ⟨v0, v1, v2, v3, v4⟩ := (b9.keep E.bl).c
              go_upto_if 88 with fail
              by_cases hc0 : 0 < c
              · go_wp2_with fail
                refine (xe_awake E).mono ?_
                rintro e wn ⟨rfl, En⟩
                have HR := hid (below_call hWc En.bl hWc.size)
                clear E En
                (try clear x0 x1 x2 x3 x4); (try clear y0 y1 y2 y3 y4); (try clear z0 z1 z2 z3 z4); (try clear u0 u1 u2 u3 u4); (try clear v0 v1 v2 v3 v4)
                go_wp2
                go_ret
                exact ⟨rfl, HR.out⟩
              · have hc1 := HT.out (by omega)
                go_wp2_with fail
                refine (xe_cmpV E (.tail _ (.tail _ (.tail _ (.head _)))) (.tail _ (.tail _ (.head _))) HYZ.out (by omega) (by omega)).mono ?_
                rintro e wn ⟨rfl, En⟩
                clear E
                have E := En
                clear En
                (try clear x0 x1 x2 x3 x4); (try clear y0 y1 y2 y3 y4); (try clear z0 z1 z2 z3 z4); (try clear u0 u1 u2 u3 u4); (try clear v0 v1 v2 v3 v4); obtain ⟨x0, x1, x2, x3, x4⟩ := (bA.keep E.bl).c; obtain ⟨y0, y1, y2, y3, y4⟩ := (bB.keep E.bl).c; obtain ⟨z0, z1, z2, z3, z4⟩ := (bC.keep E.bl).c; obtain ⟨u0, u1, u2, u3, u4⟩ := (b8.keep E.bl).c; obtain ⟨v0, v1, v2, v3, v4⟩ := (b9.keep E.bl).c
                by_cases hc2 : 0 < f5
                · go_wp2_with fail
                  refine (xe_awake E).mono ?_
                  rintro e wn ⟨rfl, En⟩
                  have HR := hid (below_call hWc En.bl hWc.size)
                  clear E En
                  (try clear x0 x1 x2 x3 x4); (try clear y0 y1 y2 y3 y4); (try clear z0 z1 z2 z3 z4); (try clear u0 u1 u2 u3 u4); (try clear v0 v1 v2 v3 v4)
                  go_wp2
                  go_ret
                  exact ⟨rfl, HR.out⟩
                · have hc3 := hc1 (by omega)
                  go_wp2_with fail
                  refine (xe_cmpV E (.tail _ (.tail _ (.tail _ (.tail _ (.head _))))) (.tail _ (.tail _ (.head _))) HXZ.out (by omega) (by omega)).mono ?_
                  rintro e wn ⟨rfl, En⟩
                  clear E
                  have E := En
                  clear En
                  (try clear x0 x1 x2 x3 x4); (try clear y0 y1 y2 y3 y4); (try clear z0 z1 z2 z3 z4); (try clear u0 u1 u2 u3 u4); (try clear v0 v1 v2 v3 v4); obtain ⟨x0, x1, x2, x3, x4⟩ := (bA.keep E.bl).c; obtain ⟨y0, y1, y2, y3, y4⟩ := (bB.keep E.bl).c; obtain ⟨z0, z1, z2, z3, z4⟩ := (bC.keep E.bl).c; obtain ⟨u0, u1, u2, u3, u4⟩ := (b8.keep E.bl).c; obtain ⟨v0, v1, v2, v3, v4⟩ := (b9.keep E.bl).c
                  go_wp2_with fail
                  refine (xe_awake E).mono ?_
                  rintro e wn ⟨rfl, En⟩
                  have HR := hid (below_call hWc En.bl hWc.size)
                  clear E En
                  (try clear x0 x1 x2 x3 x4); (try clear y0 y1 y2 y3 y4); (try clear z0 z1 z2 z3 z4); (try clear u0 u1 u2 u3 u4); (try clear v0 v1 v2 v3 v4)
                  go_wp2
                  go_ret
                  exact ⟨rfl, HR.out⟩
  · clear hG
    go_wp2_with fail
    refine (awake3_any _).mono ?_
    rintro e w1 ⟨rfl, hb⟩
    have hW1 := below_call hW0 hb hW0.size
    go_wp2
    go_ret
    exact ⟨rfl, hW1⟩

end Go.Proofs.Ytkoadlacdgdemaa
