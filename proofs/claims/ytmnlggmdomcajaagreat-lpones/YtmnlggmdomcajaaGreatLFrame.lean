/-
  What came in, opened: problems and answers of the law's arguments.
-/
import Derived.Test.YtmnlggmdomcajaaGreatVFrame
namespace Go.Proofs.YtmnlggmdomcajaaGreat
open Go.ChangeShapes Go.WideShapes Go.ChangeAt Go.RowKit Go.Joins Lm
set_option linter.unusedVariables false
set_option maxRecDepth 100000
set_option linter.unusedSimpArgs false

theorem Tryz.cellsLP : Tryz.prog.cellsOf 43 = 4 := by kernel_rfl
theorem Tryz.cellsAnswer : Tryz.prog.cellsOf 46 = 8 := by kernel_rfl
theorem Tryz.cellsTab : Tryz.prog.cellsOf 40 = 1 := by kernel_rfl
section
variable {H : Type} {enc : TypeId × Value → H} {P : Program} {w : World} {base : Nat} {spare : Nat → Bool} {held : Bool}
theorem trod_struct5 {t : TypeId} {f0 f1 f2 f3 f4 : Field} {fuel : Nat} {cs : List Value} {x : DataW H × List MemPlace} (ht : P.underlying t = some (.struct #[f0, f1, f2, f3, f4])) (h : DataW.trod enc P w base spare held fuel t cs = some x) :
    ∃ y0 y1 y2 y3 y4 n, cs.length = P.cellsOf t ∧ DataW.trod enc P w base spare held n f0.type ((cs.drop f0.offset).take (P.cellsOf f0.type)) = some y0 ∧
      DataW.trod enc P w base spare held n f1.type ((cs.drop f1.offset).take (P.cellsOf f1.type)) = some y1 ∧ DataW.trod enc P w base spare held n f2.type ((cs.drop f2.offset).take (P.cellsOf f2.type)) = some y2 ∧
      DataW.trod enc P w base spare held n f3.type ((cs.drop f3.offset).take (P.cellsOf f3.type)) = some y3 ∧ DataW.trod enc P w base spare held n f4.type ((cs.drop f4.offset).take (P.cellsOf f4.type)) = some y4 := by
  obtain ⟨xs, n, _, rfl, hl, hlen, hf⟩ := DataW.trod_struct ht h
  match xs, hlen with
  | [y0, y1, y2, y3, y4], _ => exact ⟨y0, y1, y2, y3, y4, n, hl, by simpa using hf 0 f0 rfl, by simpa using hf 1 f1 rfl, by simpa using hf 2 f2 rfl, by simpa using hf 3 f3 rfl, by simpa using hf 4 f4 rfl⟩
end

theorem tab_cells {H : Type} {enc : TypeId × Value → H} {W : World} {fuel : Nat} {c0 : Value} {x : DataW H × List MemPlace}
    (hf : DataW.trod enc Tryz.prog W 0 (fun _ => true) true fuel 40 [c0] = some x) :
    ∃ ao k cap M, c0 = .slice ao k cap ∧ k = M.length ∧ RawTab W ao cap M := by
  rcases Go.Deep.open_slice1 Tryz.underlying40 Tryz.cellsRow hf with ⟨hcs, _⟩ | ⟨a', len', cap', m, n, V, D, Pl, hcs, _, hl, hm, hmm, _, hx⟩
  · simp at hcs
    subst hcs
    exact ⟨none, 0, 0, [], rfl, rfl, by simp, by unfold maxLen; omega, .inl rfl⟩
  · simp at hcs
    subst hcs
    simp only [if_true] at hmm
    obtain ⟨b, off, spot⟩ := a'
    have hsp : 0 < len' → spot = none := by
      intro hp
      obtain ⟨h1, h2⟩ := hx 0 (by omega)
      simpa [Addr.add] using World.cell?_spot h1
    have hel : ∀ i, i < len' → ∃ L : List RQ, spot = none ∧ b < W.heap.size ∧ ∃ a k c, W.cell? ⟨b, off + i, none⟩ = some (.slice a k c) ∧ k = L.length ∧ RawRow W a c L := by
      intro i hi
      obtain ⟨h1, h2⟩ := hx i (by omega)
      obtain ⟨ao, k, cp, L, e, hk, hR⟩ := row_cells h2
      rw [e] at h1
      have hs : spot = none := hsp (by omega)
      subst hs
      simp only [add_plain] at h1
      exact ⟨L, rfl, World.block_lt_of_cell? W ⟨b, off + i, none⟩ h1, ao, k, cp, h1, hk, hR⟩
    obtain ⟨M, hM, hP⟩ := exList len' hel
    refine ⟨some ⟨b, off, spot⟩, len', cap', M, rfl, hM.symm, by omega, hm, ?_⟩
    by_cases h0 : M.length = 0
    · exact .inl h0
    · obtain ⟨rfl, hb, -⟩ := hP 0 (by omega)
      exact .inr ⟨b, off, rfl, hb, fun i hi => (hP i hi).2.2⟩
theorem open_lp {H : Type} {enc : TypeId × Value → H} {W : World} {base : Nat} {v : Value} {d : DataW H} {p : List MemPlace}
    (hv : Value.okWide Tryz.prog W .any base 43 v) (h : DataW.Trod enc Tryz.prog W 0 (fun _ => true) true 43 v d p) :
    ∃ n ao ka ca M bo kb cb B co kc cc C, v = .agg #[.int .i64 n, .slice ao ka ca, .slice bo kb cb, .slice co kc cc] ∧ ka = M.length ∧ RawTab W ao ca M ∧ kb = B.length ∧ RawRow W bo cb B ∧ kc = C.length ∧ RawRow W co cc C := by
  obtain ⟨cs, rfl, hsz⟩ := okWide_struct Tryz.underlying43 hv
  rw [Tryz.cellsLP] at hsz
  obtain ⟨q0, q1, q2, q3, rfl⟩ := array4 hsz
  obtain ⟨fuel, hf⟩ := h
  obtain ⟨y0, y1, y2, y3, n, -, -, h0, h1, h2, h3⟩ := trod_struct4 Tryz.underlying43 hf
  simp only [Value.cells, Tryz.cellsInt, Tryz.cellsTab, Tryz.cellsRow, List.drop_zero, List.take_succ_cons, List.take_zero, List.drop_succ_cons] at h0 h1 h2 h3
  obtain ⟨k, e0, -⟩ := DataW.trod_int Tryz.underlying3 h0
  simp at e0
  subst e0
  obtain ⟨ao, ka, ca, M, rfl, s1, s2⟩ := tab_cells h1
  obtain ⟨bo, kb, cb, B, rfl, s3, s4⟩ := row_cells h2
  obtain ⟨co, kc, cc, C, rfl, s5, s6⟩ := row_cells h3
  exact ⟨k, ao, ka, ca, M, bo, kb, cb, B, co, kc, cc, C, rfl, s1, s2, s3, s4, s5, s6⟩
theorem array8 {α : Type} {cs : Array α} (h : cs.size = 8) : ∃ c0 c1 c2 c3 c4 c5 c6 c7, cs = #[c0, c1, c2, c3, c4, c5, c6, c7] := by
  obtain ⟨l⟩ := cs
  match l, h with
  | [c0, c1, c2, c3, c4, c5, c6, c7], _ => exact ⟨c0, c1, c2, c3, c4, c5, c6, c7, rfl⟩
theorem open_answer {H : Type} {enc : TypeId × Value → H} {W : World} {base : Nat} {v : Value} {d : DataW H} {p : List MemPlace}
    (hv : Value.okWide Tryz.prog W .any base 46 v) (h : DataW.Trod enc Tryz.prog W 0 (fun _ => true) true 46 v d p) :
    ∃ kd n1 a1 c1 l1 n2 a2 c2 l2 xo kx cx X yo ky cy Y ro kr cr R, v = .agg #[.int .i64 kd, .bool n1, .slice a1 l1.length c1, .bool n2, .slice a2 l2.length c2, .slice xo kx cx, .slice yo ky cy, .slice ro kr cr] ∧ SlAt W a1 c1 l1 ∧ SlAt W a2 c2 l2 ∧ kx = X.length ∧ RawRow W xo cx X ∧ ky = Y.length ∧ RawRow W yo cy Y ∧ kr = R.length ∧ RawRow W ro cr R := by
  obtain ⟨cs, rfl, hsz⟩ := okWide_struct Tryz.underlying46 hv
  rw [Tryz.cellsAnswer] at hsz
  obtain ⟨q0, q1, q2, q3, q4, q5, q6, q7, rfl⟩ := array8 hsz
  obtain ⟨fuel, hf⟩ := h
  obtain ⟨y0, y1, y2, y3, y4, n, -, h0, h1, h2, h3, h4⟩ := trod_struct5 Tryz.underlying46 hf
  simp only [Value.cells, Tryz.cellsInt, Tryz.cellsRat, Tryz.cellsRow, List.drop_zero, List.take_succ_cons, List.take_zero, List.drop_succ_cons] at h0 h1 h2 h3 h4
  obtain ⟨k, e0, -⟩ := DataW.trod_int Tryz.underlying3 h0
  simp at e0
  subst e0
  obtain ⟨n1, a1, c1, l1, n2, a2, c2, l2, rfl, rfl, rfl, rfl, s1, s2⟩ := rat_cells h1
  obtain ⟨xo, kx, cx, X, rfl, s3, s4⟩ := row_cells h2
  obtain ⟨yo, ky, cy, Y, rfl, s5, s6⟩ := row_cells h3
  obtain ⟨ro, kr, cr, R, rfl, s7, s8⟩ := row_cells h4
  exact ⟨k, n1, a1, c1, l1, n2, a2, c2, l2, xo, kx, cx, X, yo, ky, cy, Y, ro, kr, cr, R, rfl, s1, s2, s3, s4, s5, s6, s7, s8⟩

end Go.Proofs.YtmnlggmdomcajaaGreat
