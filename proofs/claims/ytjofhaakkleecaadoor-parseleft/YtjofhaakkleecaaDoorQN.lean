/-
  Walks: whether two lists of nodes, of names, are one, where they are.
  Walks: whether two lists of statements are one, where they are.
  Walks: whether two programs are one, where they are.
-/
import Derived.Test.YtjofhaakkleecaaDoorQM
import Derived.Test.YtjofhaakkleecaaDoorQB
import Derived.Deep.RegionHeld3

namespace Go.Proofs.YtjofhaakkleecaaDoor
open Go.RowKit Lx
set_option linter.unusedSimpArgs false
set_option linter.unusedVariables false
set_option maxRecDepth 100000

theorem cells5_of {w : World} {g o : Nat} {a b c d e : Value} (h : CellsAt w g o [a, b, c, d, e]) : w.cell? ⟨g, o, none⟩ = some a ∧ w.cell? ⟨g, o + 1, none⟩ = some b ∧ w.cell? ⟨g, o + 2, none⟩ = some c ∧ w.cell? ⟨g, o + 3, none⟩ = some d ∧ w.cell? ⟨g, o + 4, none⟩ = some e :=
  ⟨h 0 a rfl, h 1 b rfl, h 2 c rfl, h 3 d rfl, h 4 e rfl⟩
theorem CellsAt.below {w w' : World} {g o : Nat} {l : List Value} (h : CellsAt w g o l) (hg : g < w.heap.size) (hb : Below w.heap.size w w') : CellsAt w' g o l :=
  fun c u hu => (hb.cell (p := ⟨g, o + c, none⟩) hg).trans (h c u hu)
theorem slf_get {w : World} {ok : Nat → Prop} {n : Nat} {ao : Option Addr} {m cap : Nat} {L : List (List Value)} (h : SlF w ok n ao m cap L) {i : Nat} (hi : i < m) : ∃ g, ao = some ⟨g, 0, none⟩ ∧ g < w.heap.size ∧ ∃ c, L[i]? = some c ∧ CellsAt w g (i * n) c := by
  obtain ⟨h1, h2, h3, h4⟩ := h
  obtain ⟨g, e, -, hg, hc⟩ := h4.resolve_left (by omega)
  have hiL : i < L.length := by omega
  exact ⟨g, e, hg, L[i], List.getElem?_eq_getElem hiL, hc i hiL⟩

set_option maxHeartbeats 1600000 in
theorem rnodes_any (w : World) (ok ok' : Nat → Prop) (a1 a2 : Option Addr) (m1 c1 m2 c2 : Nat) (ns : List Nd) (h1 : NdF w ok a1 m1 c1 ns) (h2 : NdF w ok' a2 m2 c2 ns) :
    Calls Tryd.prog 24 #[.slice a1 m1 c1, .slice a2 m2 c2] w fun e w' => e = .returned (.bool true) ∧ Below w.heap.size w w' := by
  have e1 := h1.1
  have e2 := h2.1
  have b1 := h1.2.1
  have b2 := h1.2.2.1
  rw [List.length_map] at e1 e2
  have e12 : m2 = m1 := by omega
  subst e12
  unfold maxLen at b2
  have H1 := hid h1
  have H2 := hid h2
  have HM := hid e1
  clear h1 h2 e1 e2
  go_enter Tryd.func24, Tryd.ntmps24
  go_wp2_with fail
  go_loopw [5] (fun iv wr => ∃ i : Nat, i ≤ m2 ∧ iv = .int .i64 (i : Int) ∧ Below w.heap.size w wr) (fun iv wr => m2 - (intOf iv).toNat)
  case atStart => exact ⟨0, by omega, rfl, Below.refl _ _⟩
  case round =>
    obtain ⟨i, him, rfl, hb⟩ := hrel
    by_cases hlt : i < m2
    · have hii : (i : Int) < (m2 : Int) := by omega
      have hi0 : (0 : Int) ≤ (i : Int) := by omega
      obtain ⟨g1, rfl, hg1, l1, hl1, hc1⟩ := slf_get H1.out hlt
      obtain ⟨g2, rfl, hg2, l2, hl2, hc2⟩ := slf_get H2.out hlt
      rw [hl1] at hl2
      obtain rfl := Option.some.inj hl2
      rw [List.getElem?_map] at hl1
      obtain ⟨nd, -, rfl⟩ := Option.map_eq_some_iff.1 hl1
      have HB := hid hb
      have HC1 := hid hc1
      have HC2 := hid hc2
      obtain ⟨x0, x1, x2, x3, x4⟩ := cells5_of ((hc1.below hg1 hb).below (Nat.lt_of_lt_of_le hg1 hb.size) (Below.refl _ _).drew)
      obtain ⟨y0, y1, y2, y3, y4⟩ := cells5_of ((hc2.below hg2 hb).below (Nat.lt_of_lt_of_le hg2 hb.size) (Below.refl _ _).drew)
      clear hc1 hc2 hl1 hb
      go_wp2_with fail
      go_region_held3 (fun W' => W'.cell? ⟨g1, i * 5, none⟩ = some (.int .i64 (nd.k : Int)) ∧ W'.cell? ⟨g1, i * 5 + 1, none⟩ = some (.int .i64 (nd.n : Int)) ∧ W'.cell? ⟨g1, i * 5 + 2, none⟩ = some (.string (str nd.s)) ∧ W'.cell? ⟨g1, i * 5 + 3, none⟩ = some (.int .i64 nd.a) ∧ W'.cell? ⟨g1, i * 5 + 4, none⟩ = some (.int .i64 nd.b) ∧ W'.cell? ⟨g2, i * 5, none⟩ = some (.int .i64 (nd.k : Int)) ∧ W'.cell? ⟨g2, i * 5 + 1, none⟩ = some (.int .i64 (nd.n : Int)) ∧ W'.cell? ⟨g2, i * 5 + 2, none⟩ = some (.string (str nd.s)) ∧ W'.cell? ⟨g2, i * 5 + 3, none⟩ = some (.int .i64 nd.a) ∧ W'.cell? ⟨g2, i * 5 + 4, none⟩ = some (.int .i64 nd.b)) (exact ⟨x0, x1, x2, x3, x4, y0, y1, y2, y3, y4⟩) (first | fail)
      go_wp2
      refine ⟨⟨i + 1, by omega, by go_num, HB.out.drew⟩, ?_⟩
      simp only [intOf]
      omega
    · obtain rfl : i = m2 := by omega
      have hii : ¬ (i : Int) < (i : Int) := by omega
      have HB := hid hb
      go_wp2
      go_ret
      exact ⟨rfl, HB.out⟩
set_option maxHeartbeats 1600000 in
theorem rtexts_any (w : World) (ok ok' : Nat → Prop) (a1 a2 : Option Addr) (m1 c1 m2 c2 : Nat) (ns : List (List Nat)) (h1 : TxF w ok a1 m1 c1 ns) (h2 : TxF w ok' a2 m2 c2 ns) :
    Calls Tryd.prog 15 #[.slice a1 m1 c1, .slice a2 m2 c2] w fun e w' => e = .returned (.bool true) ∧ Below w.heap.size w w' := by
  have e1 := h1.1
  have e2 := h2.1
  have b1 := h1.2.1
  have b2 := h1.2.2.1
  rw [List.length_map] at e1 e2
  have e12 : m2 = m1 := by omega
  subst e12
  unfold maxLen at b2
  have H1 := hid h1
  have H2 := hid h2
  have HM := hid e1
  clear h1 h2 e1 e2
  go_enter Tryd.func15, Tryd.ntmps15
  go_wp2_with fail
  go_loopw [5] (fun iv wr => ∃ i : Nat, i ≤ m2 ∧ iv = .int .i64 (i : Int) ∧ Below w.heap.size w wr) (fun iv wr => m2 - (intOf iv).toNat)
  case atStart => exact ⟨0, by omega, rfl, Below.refl _ _⟩
  case round =>
    obtain ⟨i, him, rfl, hb⟩ := hrel
    by_cases hlt : i < m2
    · have hii : (i : Int) < (m2 : Int) := by omega
      have hi0 : (0 : Int) ≤ (i : Int) := by omega
      obtain ⟨g1, rfl, hg1, l1, hl1, hc1⟩ := slf_get H1.out hlt
      obtain ⟨g2, rfl, hg2, l2, hl2, hc2⟩ := slf_get H2.out hlt
      rw [hl1] at hl2
      obtain rfl := Option.some.inj hl2
      rw [List.getElem?_map] at hl1
      obtain ⟨nd, -, rfl⟩ := Option.map_eq_some_iff.1 hl1
      have HB := hid hb
      have HC1 := hid hc1
      have HC2 := hid hc2
      have x0 : (World.drew wr).cell? ⟨g1, i * 1, none⟩ = some (.string (str nd)) := ((hc1.below hg1 hb).below (Nat.lt_of_lt_of_le hg1 hb.size) (Below.refl _ _).drew) 0 _ rfl
      have y0 : (World.drew wr).cell? ⟨g2, i * 1, none⟩ = some (.string (str nd)) := ((hc2.below hg2 hb).below (Nat.lt_of_lt_of_le hg2 hb.size) (Below.refl _ _).drew) 0 _ rfl
      rw [Nat.mul_one] at x0 y0
      clear hc1 hc2 hl1 hb
      go_wp2_with fail
      go_region_held3 (fun W' => W'.cell? ⟨g1, i, none⟩ = some (.string (str nd)) ∧ W'.cell? ⟨g2, i, none⟩ = some (.string (str nd))) (exact ⟨x0, y0⟩) (first | fail)
      go_wp2
      refine ⟨⟨i + 1, by omega, by go_num, HB.out.drew⟩, ?_⟩
      simp only [intOf]
      omega
    · obtain rfl : i = m2 := by omega
      have hii : ¬ (i : Int) < (i : Int) := by omega
      have HB := hid hb
      go_wp2
      go_ret
      exact ⟨rfl, HB.out⟩
end Go.Proofs.YtjofhaakkleecaaDoor

namespace Go.Proofs.YtjofhaakkleecaaDoor
open Go.RowKit Lx
set_option linter.unusedSimpArgs false
set_option linter.unusedVariables false
set_option maxRecDepth 100000

/-- A block of cells. -/
def BoxL (w : World) (g : Nat) (l : List Value) : Prop := ∃ T, w.heap[g]? = some (.cells l.toArray T (0, 0))
section
variable {w w' : World} {g : Nat} {l : List Value}
theorem BoxL.lt (h : BoxL w g l) : g < w.heap.size := by
  obtain ⟨T, h⟩ := h
  exact (Array.getElem?_eq_some_iff.1 h).1
theorem BoxL.cells (h : BoxL w g l) : CellsAt w g 0 l := by
  obtain ⟨T, h⟩ := h
  intro c u hu
  rw [cell_of_row w g _ _ _ _ h, Nat.zero_add]
  simpa using hu
theorem BoxL.f (h : BoxL w g l) (i : Nat) : w.frozen? ⟨g, i, none⟩ = false := by
  obtain ⟨T, h⟩ := h
  exact frozen_of_row w g i _ _ h
theorem BoxL.at (h : BoxL w g l) (hs : w'.heap[g]? = w.heap[g]?) : BoxL w' g l := by
  obtain ⟨T, h⟩ := h
  exact ⟨T, hs.trans h⟩
theorem BoxL.keep (h : BoxL w g l) (hb : Below w.heap.size w w') : BoxL w' g l := h.at (hb.block g h.lt)
theorem BoxL.new (w : World) (l : List Value) (T : TypeId) (a : Array Value) (ha : a = l.toArray) : BoxL (w.alloc (.cells a T)) w.heap.size l := ⟨T, by rw [ha]; exact heap_alloc_new w _⟩
theorem BoxL.alloc (h : BoxL w g l) (o : Obj) : BoxL (w.alloc o) g l := h.keep ((Below.refl _ _).alloc (Nat.le_refl _) o)
theorem BoxL.other (h : BoxL w g l) {b c : Nat} (hb : b ≠ g) (u : Value) : BoxL (w.setCell ⟨b, c, none⟩ u) g l := h.at (heap_setCell_other w ⟨b, c, none⟩ g u (by simpa using hb.symm))
theorem BoxL.set (h : BoxL w g l) (i : Nat) (u : Value) : BoxL (w.setCell ⟨g, i, none⟩ u) g (l.set i u) := by
  obtain ⟨T, h⟩ := h
  exact ⟨T, by rw [heap_setCell_same w g i _ T u h]; simp⟩
end
theorem boxL_new2 (w : World) (o : Obj) (l : List Value) (T : TypeId) (a : Array Value) (ha : a = l.toArray) : BoxL ((w.alloc o).alloc (.cells a T)) (w.heap.size + 1) l := by
  have := BoxL.new (w.alloc o) l T a ha
  rwa [asize] at this
theorem BoxL.drew {w : World} {g : Nat} {l : List Value} (h : BoxL w g l) : BoxL w.drew g l := h
theorem BoxL.c7 {w : World} {g : Nat} {a b c d e f h : Value} (q : BoxL w g [a, b, c, d, e, f, h]) : w.cell? ⟨g, 0, none⟩ = some a ∧ w.cell? ⟨g, 1, none⟩ = some b ∧ w.cell? ⟨g, 2, none⟩ = some c ∧ w.cell? ⟨g, 3, none⟩ = some d ∧ w.cell? ⟨g, 4, none⟩ = some e ∧ w.cell? ⟨g, 5, none⟩ = some f ∧ w.cell? ⟨g, 6, none⟩ = some h := by
  have k := q.cells
  have k0 := k 0 a rfl
  have k1 := k 1 b rfl
  have k2 := k 2 c rfl
  have k3 := k 3 d rfl
  have k4 := k 4 e rfl
  have k5 := k 5 f rfl
  have k6 := k 6 h rfl
  simp only [Nat.zero_add] at k0 k1 k2 k3 k4 k5 k6
  exact ⟨k0, k1, k2, k3, k4, k5, k6⟩
theorem arf_get {w : World} {ok : Nat → Prop} {ao : Option Addr} {m cap : Nat} {A : List (List Nd)} (h : ArF w ok ao m cap A) : m = A.length ∧ m ≤ cap ∧ cap ≤ maxLen ∧ ∀ j, j < m → ∀ a, A[j]? = some a → ∃ g bo n c, ao = some ⟨g, 0, none⟩ ∧ g < w.heap.size ∧ w.cell? ⟨g, j, none⟩ = some (.slice bo n c) ∧ NdF w ok bo n c a := by
  obtain ⟨vs, h1, h2⟩ := h
  have hl := h2.len
  refine ⟨by rw [h1.1, hl], h1.2.1, h1.2.2.1, fun j hj a ha => ?_⟩
  obtain ⟨g, e, hg, c, hc, hcc⟩ := slf_get h1 hj
  have key : ∀ {A : List (List Nd)} {C : List (List Value)}, AllV (NdV w ok) A C → ∀ (j : Nat) (a : List Nd) (c : List Value), A[j]? = some a → C[j]? = some c → ∃ v, c = [v] ∧ NdV w ok a v := by
    intro A
    induction A with
    | nil => intro C _ j a c h; simp at h
    | cons b A ih =>
      intro C hC j a c h1 h2
      cases C with
      | nil => exact hC.elim
      | cons d C =>
        cases j with
        | zero =>
          simp only [List.getElem?_cons_zero, Option.some.injEq] at h1 h2
          subst h1 h2
          exact hC.1
        | succ j =>
          simp only [List.getElem?_cons_succ] at h1 h2
          exact ih hC.2 j a c h1 h2
  obtain ⟨v, rfl, bo, n, c2, rfl, hn⟩ := key h2 j a c ha hc
  have h0 := hcc 0 _ rfl
  rw [Nat.mul_one, Nat.add_zero] at h0
  exact ⟨g, bo, n, c2, e, hg, h0, hn⟩
theorem cells7_of {w : World} {g o : Nat} {a b c d e f h : Value} (q : CellsAt w g o [a, b, c, d, e, f, h]) : w.cell? ⟨g, o, none⟩ = some a ∧ w.cell? ⟨g, o + 1, none⟩ = some b ∧ w.cell? ⟨g, o + 2, none⟩ = some c ∧ w.cell? ⟨g, o + 3, none⟩ = some d ∧ w.cell? ⟨g, o + 4, none⟩ = some e ∧ w.cell? ⟨g, o + 5, none⟩ = some f ∧ w.cell? ⟨g, o + 6, none⟩ = some h :=
  ⟨q 0 a rfl, q 1 b rfl, q 2 c rfl, q 3 d rfl, q 4 e rfl, q 5 f rfl, q 6 h rfl⟩
theorem keep77 {w W : World} {g1 g2 o : Nat} {a b c d e f h a' b' c' d' e' f' h' : Value} (q : CellsAt w g1 o [a, b, c, d, e, f, h]) (q' : CellsAt w g2 o [a', b', c', d', e', f', h']) (l1 : g1 < w.heap.size) (l2 : g2 < w.heap.size) (hb : Below w.heap.size w W) :
    W.cell? ⟨g1, o, none⟩ = some a ∧ W.cell? ⟨g1, o + 1, none⟩ = some b ∧ W.cell? ⟨g1, o + 2, none⟩ = some c ∧ W.cell? ⟨g1, o + 3, none⟩ = some d ∧ W.cell? ⟨g1, o + 4, none⟩ = some e ∧ W.cell? ⟨g1, o + 5, none⟩ = some f ∧ W.cell? ⟨g1, o + 6, none⟩ = some h ∧ W.cell? ⟨g2, o, none⟩ = some a' ∧ W.cell? ⟨g2, o + 1, none⟩ = some b' ∧ W.cell? ⟨g2, o + 2, none⟩ = some c' ∧ W.cell? ⟨g2, o + 3, none⟩ = some d' ∧ W.cell? ⟨g2, o + 4, none⟩ = some e' ∧ W.cell? ⟨g2, o + 5, none⟩ = some f' ∧ W.cell? ⟨g2, o + 6, none⟩ = some h' := by
  obtain ⟨x0, x1, x2, x3, x4, x5, x6⟩ := cells7_of (q.below l1 hb)
  obtain ⟨y0, y1, y2, y3, y4, y5, y6⟩ := cells7_of (q'.below l2 hb)
  exact ⟨x0, x1, x2, x3, x4, x5, x6, y0, y1, y2, y3, y4, y5, y6⟩
theorem stsv_get {w : World} {ok : Nat → Prop} : ∀ {L : List St} {vs : List (List Value)}, StsV w ok L vs → vs.length = L.length ∧ ∀ (i : Nat) (c : List Value) (s : St), vs[i]? = some c → L[i]? = some s → c.length = 7 ∧ StV w ok s (.agg c.toArray)
  | [], vs, h => by
    unfold StsV at h
    subst h
    exact ⟨rfl, fun i c s h1 => by simp at h1⟩
  | s :: L, vs, h => by
    unfold StsV at h
    obtain ⟨c, r, rfl, h1, h2, h3⟩ := h
    obtain ⟨q1, q2⟩ := stsv_get h3
    refine ⟨by simp [q1], fun i d t hd ht => ?_⟩
    cases i with
    | zero =>
      simp only [List.getElem?_cons_zero, Option.some.injEq] at hd ht
      subst hd ht
      exact ⟨h1, h2⟩
    | succ i =>
      simp only [List.getElem?_cons_succ] at hd ht
      exact q2 i d t hd ht
theorem ssf_get {w : World} {ok : Nat → Prop} {ao : Option Addr} {m cap : Nat} {L : List St} (h : SsF w ok ao m cap L) : m = L.length ∧ m ≤ cap ∧ cap ≤ maxLen ∧ ∀ i, i < m → ∀ s, L[i]? = some s → ∃ g c, ao = some ⟨g, 0, none⟩ ∧ g < w.heap.size ∧ c.length = 7 ∧ CellsAt w g (i * 7) c ∧ StV w ok s (.agg c.toArray) := by
  obtain ⟨vs, h1, h2⟩ := h
  obtain ⟨q1, q2⟩ := stsv_get h2
  refine ⟨by rw [h1.1, q1], h1.2.1, h1.2.2.1, fun i hi s hs => ?_⟩
  obtain ⟨g, e, hg, c, hc, hcc⟩ := slf_get h1 hi
  obtain ⟨r1, r2⟩ := q2 i c s hc hs
  exact ⟨g, c, e, hg, r1, hcc, r2⟩
theorem Same.ofBelow {w w' : World} {ok : Nat → Prop} (hb : Below w.heap.size w w') : Same w w' ok ok := ⟨hb.size, fun b hb2 ho => ⟨hb.block b hb2, ho⟩⟩
/-- Two boxes, each with a statement. -/
def Two7 (wr wc : World) (l r : List Value) (p6 p7 : Value) : Prop := ∃ gx gy, p6 = .pointer (some ⟨gx, 0, none⟩) ∧ p7 = .pointer (some ⟨gy, 0, none⟩) ∧ BoxL wc gx l ∧ BoxL wc gy r ∧ Below wr.heap.size wr wc
/-- Two lists that are the same are told to be. -/
def SameOk (L : List St) : Prop := ∀ (w : World) (ok ok' : Nat → Prop) (a1 a2 : Option Addr) (m1 c1 m2 c2 : Nat), SsF w ok a1 m1 c1 L → SsF w ok' a2 m2 c2 L → Calls Tryd.prog 16 #[.slice a1 m1 c1, .slice a2 m2 c2] w fun e w' => e = .returned (.bool true) ∧ Below w.heap.size w w'

theorem keep4s {w wc W : World} {gx gy ga gb j : Nat} {a b c d : Value} (hx : wc.cell? ⟨gx, 4, none⟩ = some a) (lx : gx < wc.heap.size) (hy : wc.cell? ⟨gy, 4, none⟩ = some b) (ly : gy < wc.heap.size) (z1 : w.cell? ⟨ga, j, none⟩ = some c) (la : ga < w.heap.size) (z2 : w.cell? ⟨gb, j, none⟩ = some d) (lb : gb < w.heap.size) (hW : Below w.heap.size w wc) (hb : Below wc.heap.size wc W) :
    W.cell? ⟨gx, 4, none⟩ = some a ∧ W.cell? ⟨gy, 4, none⟩ = some b ∧ W.cell? ⟨ga, j, none⟩ = some c ∧ W.cell? ⟨gb, j, none⟩ = some d :=
  ⟨(hb.cell (p := ⟨gx, 4, none⟩) lx).trans hx, (hb.cell (p := ⟨gy, 4, none⟩) ly).trans hy, ((below_call hW hb hW.size).cell (p := ⟨ga, j, none⟩) la).trans z1, ((below_call hW hb hW.size).cell (p := ⟨gb, j, none⟩) lb).trans z2⟩

set_option maxHeartbeats 3200000 in
theorem rsame_step (n : Nat) (ih : ∀ L, SizeOf.sizeOf L ≤ n → SameOk L) (L : List St) (hL : SizeOf.sizeOf L ≤ n + 1) : SameOk L := by
  intro w ok ok' a1 a2 m1 c1 m2 c2 h1 h2
  obtain ⟨e1, b1, b2, g1⟩ := ssf_get h1
  obtain ⟨e2, d1, d2, g2⟩ := ssf_get h2
  have e12 : m2 = m1 := by omega
  subst e12
  unfold maxLen at b2
  have G1 := hid g1
  have G2 := hid g2
  have HM := hid e1
  have HIH := hid ih
  have HSZ := hid hL
  clear h1 h2 e1 e2 g1 g2 ih hL d2
  go_enter Tryd.func16, Tryd.ntmps16
  go_wp2_with fail
  go_loopw [5] (fun iv wr => ∃ i : Nat, i ≤ m2 ∧ iv = .int .i64 (i : Int) ∧ Below w.heap.size w wr) (fun iv wr => m2 - (intOf iv).toNat)
  case atStart => exact ⟨0, by omega, rfl, Below.refl _ _⟩
  case round =>
    obtain ⟨i, him, rfl, hb⟩ := hrel
    by_cases hlt : i < m2
    · have hii : (i : Int) < (m2 : Int) := by omega
      have hi0 : (0 : Int) ≤ (i : Int) := by omega
      have hiL : i < L.length := by have := HM.out; omega
      have hget : L[i]? = some L[i] := List.getElem?_eq_getElem hiL
      obtain ⟨g1, l1, rfl, hg1, hl1, hc1, hs1⟩ := G1.out i hlt _ hget
      obtain ⟨g2, l2, rfl, hg2, hl2, hc2, hs2⟩ := G2.out i hlt _ hget
      have hmem : SizeOf.sizeOf L[i] < SizeOf.sizeOf L := List.sizeOf_lt_of_mem (List.getElem_mem hiL)
      generalize L[i] = s at *
      obtain ⟨k, name, proc, e, args, body, els⟩ := s
      have hsz : SizeOf.sizeOf body ≤ n ∧ SizeOf.sizeOf els ≤ n := by
        have := HSZ.out
        simp only [St.mk.sizeOf_spec] at hmem
        omega
      unfold StV at hs1 hs2
      obtain ⟨ae, me, ce, aa, ma, ca, ab, mb, cb, al, ml, cl, vb, vl, q1, n1, r1, s1, t1⟩ := hs1
      obtain ⟨ae', me', ce', aa', ma', ca', ab', mb', cb', al', ml', cl', vb', vl', q2, n2, r2, s2, t2⟩ := hs2
      have E1 : l1 = [.int .i64 (k : Int), .string (str name), .string (str proc), .slice ae me ce, .slice aa ma ca, .slice ab mb cb, .slice al ml cl] := by
        simp only [Value.agg.injEq] at q1
        have := congrArg Array.toList q1
        simpa using this
      have E2 : l2 = [.int .i64 (k : Int), .string (str name), .string (str proc), .slice ae' me' ce', .slice aa' ma' ca', .slice ab' mb' cb', .slice al' ml' cl'] := by
        simp only [Value.agg.injEq] at q2
        have := congrArg Array.toList q2
        simpa using this
      subst E1 E2
      clear q1 q2 hl1 hl2 hget hmem
      have HB := hid hb
      have N1 := hid n1
      have N2 := hid n2
      have R1 := hid r1
      have R2 := hid r2
      have S1 : Hid (SsF w ok ab mb cb body) := hid ⟨vb, s1⟩
      have S2 : Hid (SsF w ok' ab' mb' cb' body) := hid ⟨vb', s2⟩
      have T1 : Hid (SsF w ok al ml cl els) := hid ⟨vl, t1⟩
      have T2 : Hid (SsF w ok' al' ml' cl' els) := hid ⟨vl', t2⟩
      have HCA := hid (hc1.below hg1 hb)
      have HCB := hid (hc2.below hg2 hb)
      have lt1 : g1 < wr.heap.size := Nat.lt_of_lt_of_le hg1 hb.size
      have lt2 : g2 < wr.heap.size := Nat.lt_of_lt_of_le hg2 hb.size
      clear hc1 hc2 hb n1 n2 r1 r2 s1 s2 t1 t2
      go_wp2_with fail
      go_cut [6, 7] (fun p6 p7 wc => Two7 wr wc [.int .i64 (k : Int), .string (str name), .string (str proc), .slice ae me ce, .slice aa ma ca, .slice ab mb cb, .slice al ml cl] [.int .i64 (k : Int), .string (str name), .string (str proc), .slice ae' me' ce', .slice aa' ma' ca', .slice ab' mb' cb', .slice al' ml' cl'] p6 p7)
      case first =>
        go_region_held3 (fun W' => W'.cell? ⟨g1, i * 7, none⟩ = some (.int .i64 (k : Int)) ∧ W'.cell? ⟨g1, i * 7 + 1, none⟩ = some (.string (str name)) ∧ W'.cell? ⟨g1, i * 7 + 2, none⟩ = some (.string (str proc)) ∧ W'.cell? ⟨g1, i * 7 + 3, none⟩ = some (.slice ae me ce) ∧ W'.cell? ⟨g1, i * 7 + 4, none⟩ = some (.slice aa ma ca) ∧ W'.cell? ⟨g1, i * 7 + 5, none⟩ = some (.slice ab mb cb) ∧ W'.cell? ⟨g1, i * 7 + 6, none⟩ = some (.slice al ml cl) ∧ W'.cell? ⟨g2, i * 7, none⟩ = some (.int .i64 (k : Int)) ∧ W'.cell? ⟨g2, i * 7 + 1, none⟩ = some (.string (str name)) ∧ W'.cell? ⟨g2, i * 7 + 2, none⟩ = some (.string (str proc)) ∧ W'.cell? ⟨g2, i * 7 + 3, none⟩ = some (.slice ae' me' ce') ∧ W'.cell? ⟨g2, i * 7 + 4, none⟩ = some (.slice aa' ma' ca') ∧ W'.cell? ⟨g2, i * 7 + 5, none⟩ = some (.slice ab' mb' cb') ∧ W'.cell? ⟨g2, i * 7 + 6, none⟩ = some (.slice al' ml' cl')) (exact keep77 HCA.out HCB.out lt1 lt2 (by repeat (first | exact Below.refl _ _ | refine Below.alloc ?_ ?_ _ | refine Below.setCell ?_ ?_ _ | refine Below.drew ?_ | refine below_drewN ?_ _ | (· simp) | omega | (· simp; omega) | exact Below.size (by assumption) | assumption | refine below_call ?_ (by assumption) ?_))) (first | fail)
        all_goals
          go_wp2_with fail
          go_meet
          first
            | exact ⟨_, _, rfl, rfl, ((BoxL.new _ _ _ _ rfl).alloc _).drew, (boxL_new2 _ _ _ _ _ rfl).drew, (by repeat (first | exact Below.refl _ _ | refine Below.alloc ?_ ?_ _ | refine Below.setCell ?_ ?_ _ | refine Below.drew ?_ | refine below_drewN ?_ _ | (· simp) | omega | (· simp; omega) | exact Below.size (by assumption) | assumption | refine below_call ?_ (by assumption) ?_))⟩
            | exact ⟨_, _, rfl, rfl, (boxL_new2 _ _ _ _ _ rfl).drew, ((BoxL.new _ _ _ _ rfl).alloc _).drew, (by repeat (first | exact Below.refl _ _ | refine Below.alloc ?_ ?_ _ | refine Below.setCell ?_ ?_ _ | refine Below.drew ?_ | refine below_drewN ?_ _ | (· simp) | omega | (· simp; omega) | exact Below.size (by assumption) | assumption | refine below_call ?_ (by assumption) ?_))⟩
      case rest =>
        obtain ⟨gx, gy, rfl, rfl, bX, bY, hbw⟩ := hcut
        have hW := below_call HB.out hbw HB.out.size
        have HWC := hid hW
        have HW := hid (fun W (h : Below wc.heap.size wc W) => below_call hW h hW.size)
        obtain ⟨p1, p2, p3, A1⟩ := arf_get R1.out
        obtain ⟨q1, q2, q3, A2⟩ := arf_get R2.out
        have hma : ma' = ma := by omega
        subst hma
        unfold maxLen at p3
        have A1 := hid A1
        have A2 := hid A2
        have HP := hid p1
        have BX := hid bX
        have BY := hid bY
        have X4 := hid bX.c7.2.2.2.2.1
        have Y4 := hid bY.c7.2.2.2.2.1
        have lx := bX.lt
        have ly := bY.lt
        have hme : me' = me := by have h1 := N1.out.1; have h2 := N2.out.1; omega
        subst hme
        have hbc : Below wc.heap.size wc wc := Below.refl _ _
        obtain ⟨x0, x1, x2, x3, x4, x5, x6⟩ := bX.c7
        obtain ⟨y0, y1, y2, y3, y4, y5, y6⟩ := bY.c7
        clear bX bY hbw HCA HCB HB lt1 lt2 hW p1 q1 q2 q3 R1 R2
        go_wp2_with fail
        refine (rnodes_any wc ok ok' ae ae' me' ce me' ce' e (SlF.move N1.out (Same.ofBelow (HW.out _ hbc))) (SlF.move N2.out (Same.ofBelow (HW.out _ hbc)))).mono ?_
        rintro e9 wn ⟨rfl, hbn⟩
        (have hbd := below_call hbc hbn hbc.size; clear hbc hbn x0 x1 x2 x3 x4 x5 x6 y0 y1 y2 y3 y4 y5 y6; have hbc := hbd; clear hbd; obtain ⟨x0, x1, x2, x3, x4, x5, x6⟩ := (BX.out.keep hbc).c7; obtain ⟨y0, y1, y2, y3, y4, y5, y6⟩ := (BY.out.keep hbc).c7)
        go_wp2_with fail
        refine ((HIH.out body hsz.1) _ ok ok' ab ab' mb cb mb' cb' (SsF.move S1.out (Same.ofBelow (HW.out _ hbc))) (SsF.move S2.out (Same.ofBelow (HW.out _ hbc)))).mono ?_
        rintro e9 wn2 ⟨rfl, hbn⟩
        (have hbd := below_call hbc hbn hbc.size; clear hbc hbn x0 x1 x2 x3 x4 x5 x6 y0 y1 y2 y3 y4 y5 y6; have hbc := hbd; clear hbd; obtain ⟨x0, x1, x2, x3, x4, x5, x6⟩ := (BX.out.keep hbc).c7; obtain ⟨y0, y1, y2, y3, y4, y5, y6⟩ := (BY.out.keep hbc).c7)
        go_wp2_with fail
        refine ((HIH.out els hsz.2) _ ok ok' al al' ml cl ml' cl' (SsF.move T1.out (Same.ofBelow (HW.out _ hbc))) (SsF.move T2.out (Same.ofBelow (HW.out _ hbc)))).mono ?_
        rintro e9 wn3 ⟨rfl, hbn⟩
        (have hbd := below_call hbc hbn hbc.size; clear hbc hbn x0 x1 x2 x3 x4 x5 x6 y0 y1 y2 y3 y4 y5 y6; have hbc := hbd; clear hbd; obtain ⟨x0, x1, x2, x3, x4, x5, x6⟩ := (BX.out.keep hbc).c7; obtain ⟨y0, y1, y2, y3, y4, y5, y6⟩ := (BY.out.keep hbc).c7)
        have HBC := hid hbc
        clear hbc
        go_wp2_with fail
        rename World => wo
        go_loopw [8] (fun kv wk => ∃ j : Nat, j ≤ ma' ∧ kv = .int .i64 (j : Int) ∧ Below wc.heap.size wc wk) (fun kv wk => ma' - (intOf kv).toNat)
        case atStart => exact ⟨0, Nat.zero_le _, rfl, HBC.out⟩
        case round =>
          obtain ⟨j, hjm, rfl, hbk⟩ := hrel
          clear x0 x1 x2 x3 x4 x5 x6 y0 y1 y2 y3 y4 y5 y6
          have x4 := (BX.out.keep hbk).c7.2.2.2.2.1
          have y4 := (BY.out.keep hbk).c7.2.2.2.2.1
          have HBK := hid hbk
          by_cases hjl : j < ma'
          · have hji : (j : Int) < (ma' : Int) := by omega
            have hj0 : (0 : Int) ≤ (j : Int) := by omega
            have hjA : j < args.length := by have := HP.out; omega
            obtain ⟨ga, bo, nn, c5, rfl, hga, z1, u1⟩ := A1.out j hjl _ (List.getElem?_eq_getElem hjA)
            obtain ⟨gb, bo', nn', c5', rfl, hgb, z2, u2⟩ := A2.out j hjl _ (List.getElem?_eq_getElem hjA)
            have hnn : nn' = nn := by have h1 := u1.1; have h2 := u2.1; omega
            subst hnn
            have U1 := hid u1
            have U2 := hid u2
            have Z1 := hid z1
            have Z2 := hid z2
            have hE := hbk.drew
            clear u1 u2 z1 z2
            go_wp2_with fail
            go_region_held3 (fun W' => W'.cell? ⟨gx, 4, none⟩ = some (.slice (some ⟨ga, 0, none⟩) ma' ca) ∧ W'.cell? ⟨gy, 4, none⟩ = some (.slice (some ⟨gb, 0, none⟩) ma' ca') ∧ W'.cell? ⟨ga, j, none⟩ = some (.slice bo nn' c5) ∧ W'.cell? ⟨gb, j, none⟩ = some (.slice bo' nn' c5')) (with_reducible exact keep4s X4.out lx Y4.out ly Z1.out hga Z2.out hgb HWC.out hE) (first
              | (go_at_call 24; go_must (refine (rnodes_any _ ok ok' bo bo' nn' c5 nn' c5' _ (SlF.move U1.out (Same.ofBelow (HW.out _ hE))) (SlF.move U2.out (Same.ofBelow (HW.out _ hE)))).mono ?_); rintro e9 wn9 ⟨rfl, hbn⟩; have hE2 := below_call hE hbn hE.size; clear hE hbn; have hE := hE2; clear hE2))
            go_wp2
            refine ⟨⟨j + 1, by omega, by go_num, hE⟩, ?_⟩
            simp only [intOf]
            omega
          · obtain rfl : j = ma' := by omega
            have hji : ¬ (j : Int) < (j : Int) := by omega
            go_wp2
            refine ⟨⟨i + 1, by omega, by go_num, HW.out _ HBK.out⟩, ?_⟩
            simp only [intOf]
            omega
    · obtain rfl : i = m2 := by omega
      have hii : ¬ (i : Int) < (i : Int) := by omega
      have HB := hid hb
      go_wp2
      go_ret
      exact ⟨rfl, HB.out⟩
theorem rsame_any : ∀ (n : Nat) (L : List St), SizeOf.sizeOf L ≤ n → SameOk L
  | 0, L, h => by cases L <;> simp at h
  | n + 1, L, h => rsame_step n (rsame_any n) L h
end Go.Proofs.YtjofhaakkleecaaDoor

namespace Go.Proofs.YtjofhaakkleecaaDoor
open Go.RowKit Lx
set_option linter.unusedSimpArgs false
set_option linter.unusedVariables false
set_option maxRecDepth 100000

theorem BoxL.c5 {w : World} {g : Nat} {a b c d e : Value} (q : BoxL w g [a, b, c, d, e]) : w.cell? ⟨g, 0, none⟩ = some a ∧ w.cell? ⟨g, 1, none⟩ = some b ∧ w.cell? ⟨g, 2, none⟩ = some c ∧ w.cell? ⟨g, 3, none⟩ = some d ∧ w.cell? ⟨g, 4, none⟩ = some e := by
  have k := q.cells
  have k0 := k 0 a rfl
  have k1 := k 1 b rfl
  have k2 := k 2 c rfl
  have k3 := k 3 d rfl
  have k4 := k 4 e rfl
  simp only [Nat.zero_add] at k0 k1 k2 k3 k4
  exact ⟨k0, k1, k2, k3, k4⟩
theorem txa_txf {w : World} {ok : Nat → Prop} {ao : Option Addr} {m cap : Nat} {A : List (List Nat)} (h : TxA w ok ao m cap A) : TxF w ok ao m cap A := by
  obtain ⟨vs, h1, h2⟩ := h
  have key : ∀ {A : List (List Nat)} {C : List (List Value)}, AllV (TxQ w ok) A C → C = A.map txC := by
    intro A
    induction A with
    | nil => intro C hC; cases C with
      | nil => rfl
      | cons d C => exact hC.elim
    | cons b A ih =>
      intro C hC
      cases C with
      | nil => exact hC.elim
      | cons d C =>
        obtain ⟨⟨v, e1, e2⟩, h2⟩ := hC
        rw [List.map_cons, ← ih h2, e1, e2]
        rfl
  rw [key h2] at h1
  exact h1
theorem prsv_get {w : World} {ok : Nat → Prop} : ∀ {L : List Pr} {C : List (List Value)}, PrsV w ok L C → C.length = L.length ∧ ∀ (i : Nat) (c : List Value) (p : Pr), C[i]? = some c → L[i]? = some p → c.length = 5 ∧ PrV w ok p (.agg c.toArray)
  | [], [], h => ⟨rfl, fun i c p h1 => by simp at h1⟩
  | p :: L, c :: C, ⟨h1, h2⟩ => by
    obtain ⟨q1, q2⟩ := prsv_get h2
    refine ⟨by simp [q1], fun i d t hd ht => ?_⟩
    cases i with
    | zero =>
      simp only [List.getElem?_cons_zero, Option.some.injEq] at hd ht
      subst hd ht
      exact h1
    | succ i =>
      simp only [List.getElem?_cons_succ] at hd ht
      exact q2 i d t hd ht
  | [], _ :: _, h => h.elim
  | _ :: _, [], h => h.elim
theorem pgv_get {w : World} {ok : Nat → Prop} {L : List Pr} {v : Value} (h : PgV w ok L v) : ∃ ao m cap, v = .agg #[.slice ao m cap] ∧ m = L.length ∧ m ≤ cap ∧ cap ≤ maxLen ∧ ∀ i, i < m → ∀ p, L[i]? = some p → ∃ g c, ao = some ⟨g, 0, none⟩ ∧ g < w.heap.size ∧ c.length = 5 ∧ CellsAt w g (i * 5) c ∧ PrV w ok p (.agg c.toArray) := by
  obtain ⟨ao, m, cap, rfl, C, h1, h2⟩ := h
  obtain ⟨q1, q2⟩ := prsv_get h2
  refine ⟨ao, m, cap, rfl, by rw [h1.1, q1], h1.2.1, h1.2.2.1, fun i hi p hp => ?_⟩
  obtain ⟨g, e, hg, c, hc, hcc⟩ := slf_get h1 hi
  obtain ⟨r1, r2⟩ := q2 i c p hc hp
  exact ⟨g, c, e, hg, r1, hcc, r2⟩
/-- Two boxes, each with a procedure. -/
def Two5 (wr wc : World) (l r : List Value) (p6 p7 : Value) : Prop := ∃ gx gy, p6 = .pointer (some ⟨gx, 0, none⟩) ∧ p7 = .pointer (some ⟨gy, 0, none⟩) ∧ BoxL wc gx l ∧ BoxL wc gy r ∧ Below wr.heap.size wr wc
theorem keep55 {w W : World} {ga gb g1 g2 o : Nat} {u v a b c d e a' b' c' d' e' : Value} (hu : w.cell? ⟨ga, 0, none⟩ = some u) (hv : w.cell? ⟨gb, 0, none⟩ = some v) (la : ga < w.heap.size) (lb : gb < w.heap.size) (q : CellsAt w g1 o [a, b, c, d, e]) (q' : CellsAt w g2 o [a', b', c', d', e']) (l1 : g1 < w.heap.size) (l2 : g2 < w.heap.size) (hb : Below w.heap.size w W) :
    W.cell? ⟨ga, 0, none⟩ = some u ∧ W.cell? ⟨gb, 0, none⟩ = some v ∧ W.cell? ⟨g1, o, none⟩ = some a ∧ W.cell? ⟨g1, o + 1, none⟩ = some b ∧ W.cell? ⟨g1, o + 2, none⟩ = some c ∧ W.cell? ⟨g1, o + 3, none⟩ = some d ∧ W.cell? ⟨g1, o + 4, none⟩ = some e ∧ W.cell? ⟨g2, o, none⟩ = some a' ∧ W.cell? ⟨g2, o + 1, none⟩ = some b' ∧ W.cell? ⟨g2, o + 2, none⟩ = some c' ∧ W.cell? ⟨g2, o + 3, none⟩ = some d' ∧ W.cell? ⟨g2, o + 4, none⟩ = some e' := by
  obtain ⟨x0, x1, x2, x3, x4⟩ := cells5_of (q.below l1 hb)
  obtain ⟨y0, y1, y2, y3, y4⟩ := cells5_of (q'.below l2 hb)
  exact ⟨(hb.cell (p := ⟨ga, 0, none⟩) la).trans hu, (hb.cell (p := ⟨gb, 0, none⟩) lb).trans hv, x0, x1, x2, x3, x4, y0, y1, y2, y3, y4⟩

set_option maxHeartbeats 3200000 in
theorem rSame_any (w : World) (ok ok' : Nat → Prop) (L : List Pr) (u v : Value) (h1 : PgV w ok L u) (h2 : PgV w ok' L v) : Calls Tryd.prog 10 #[u, v] w fun e w' => e = .returned (.bool true) ∧ Below w.heap.size w w' := by
  obtain ⟨a1, m1, c1, rfl, e1, b1, b2, g1⟩ := pgv_get h1
  obtain ⟨a2, m2, c2, rfl, e2, d1, d2, g2⟩ := pgv_get h2
  have e12 : m1 = m2 := by omega
  subst e12
  unfold maxLen at b2
  have G1 := hid g1
  have G2 := hid g2
  have HM := hid e1
  clear h1 h2 e1 e2 g1 g2 d2
  go_enter Tryd.func10, Tryd.ntmps10
  have hW0 : Below w.heap.size w ((w.alloc (.cells #[.slice a1 m1 c1] 25)).alloc (.cells #[.slice a2 m1 c2] 25)) := (by repeat (first | exact Below.refl _ _ | refine Below.alloc ?_ ?_ _ | refine Below.setCell ?_ ?_ _ | refine Below.drew ?_ | refine below_drewN ?_ _ | (· simp) | omega | (· simp; omega) | exact Below.size (by assumption) | assumption | refine below_call ?_ (by assumption) ?_))
  have bA : BoxL ((w.alloc (.cells #[.slice a1 m1 c1] 25)).alloc (.cells #[.slice a2 m1 c2] 25)) w.heap.size [.slice a1 m1 c1] := (BoxL.new _ _ _ _ rfl).alloc _
  have bB : BoxL ((w.alloc (.cells #[.slice a1 m1 c1] 25)).alloc (.cells #[.slice a2 m1 c2] 25)) (w.heap.size + 1) [.slice a2 m1 c2] := boxL_new2 _ _ _ _ _ rfl
  have k0 := bA.cells 0 _ rfl
  have k1 := bB.cells 0 _ rfl
  rw [Nat.zero_add] at k0 k1
  go_wp2_with fail
  have HW0 := hid hW0
  have BA := hid bA
  have BB := hid bB
  generalize ((w.alloc (.cells #[.slice a1 m1 c1] 25)).alloc (.cells #[.slice a2 m1 c2] 25)) = W0 at *
  clear k0 k1 hW0 bA bB
  go_loopw [5] (fun iv wr => ∃ i : Nat, i ≤ m1 ∧ iv = .int .i64 (i : Int) ∧ Below W0.heap.size W0 wr) (fun iv wr => m1 - (intOf iv).toNat)
  case atStart => exact ⟨0, by omega, rfl, Below.refl _ _⟩
  case round =>
    obtain ⟨i, him, rfl, hb⟩ := hrel
    have bA := BA.out.keep hb
    have bB := BB.out.keep hb
    have k0 := bA.cells 0 _ rfl
    have k1 := bB.cells 0 _ rfl
    rw [Nat.zero_add] at k0 k1
    have lA := bA.lt
    have lB := bB.lt
    clear bA bB
    by_cases hlt : i < m1
    · have hii : (i : Int) < (m1 : Int) := by omega
      have hi0 : (0 : Int) ≤ (i : Int) := by omega
      have hiL : i < L.length := by have := HM.out; omega
      have hget : L[i]? = some L[i] := List.getElem?_eq_getElem hiL
      obtain ⟨g1, l1, rfl, hg1, hl1, hc1, hs1⟩ := G1.out i hlt _ hget
      obtain ⟨g2, l2, rfl, hg2, hl2, hc2, hs2⟩ := G2.out i hlt _ hget
      generalize L[i] = p at *
      unfold PrV at hs1 hs2
      obtain ⟨ap, mp, cp, av, mv, cv, ab, mb, cb, q1, n1, r1, s1⟩ := hs1
      obtain ⟨ap', mp', cp', av', mv', cv', ab', mb', cb', q2, n2, r2, s2⟩ := hs2
      have n1 := txa_txf n1
      have n2 := txa_txf n2
      have r1 := txa_txf r1
      have r2 := txa_txf r2
      obtain rfl : mp' = mp := by have h1 := n1.1; have h2 := n2.1; omega
      obtain rfl : mv' = mv := by have h1 := r1.1; have h2 := r2.1; omega
      obtain rfl : mb' = mb := by have h1 := (ssf_get s1).1; have h2 := (ssf_get s2).1; omega
      have E1 : l1 = [.string (str p.name), .slice ap mp' cp, .string (str p.result), .slice av mv' cv, .slice ab mb' cb] := by
        simp only [Value.agg.injEq] at q1
        have := congrArg Array.toList q1
        simpa using this
      have E2 : l2 = [.string (str p.name), .slice ap' mp' cp', .string (str p.result), .slice av' mv' cv', .slice ab' mb' cb'] := by
        simp only [Value.agg.injEq] at q2
        have := congrArg Array.toList q2
        simpa using this
      subst E1 E2
      clear q1 q2 hl1 hl2 hget
      have HB := hid hb
      have N1 := hid n1
      have N2 := hid n2
      have R1 := hid r1
      have R2 := hid r2
      have S1 := hid s1
      have S2 := hid s2
      have hwr := below_call HW0.out hb HW0.out.size
      have HWR := hid hwr
      have HCA := hid (hc1.below hg1 hwr)
      have HCB := hid (hc2.below hg2 hwr)
      have lt1 : g1 < wr.heap.size := Nat.lt_of_lt_of_le hg1 hwr.size
      have lt2 : g2 < wr.heap.size := Nat.lt_of_lt_of_le hg2 hwr.size
      have K0 := hid k0
      have K1 := hid k1
      clear hc1 hc2 hb n1 n2 r1 r2 s1 s2 hwr
      go_wp2_with fail
      go_cut [6, 7] (fun p6 p7 wc => Two5 wr wc [.string (str p.name), .slice ap mp' cp, .string (str p.result), .slice av mv' cv, .slice ab mb' cb] [.string (str p.name), .slice ap' mp' cp', .string (str p.result), .slice av' mv' cv', .slice ab' mb' cb'] p6 p7)
      case first =>
        clear k0 k1
        go_region_held3 (fun W' => W'.cell? ⟨w.heap.size, 0, none⟩ = some (.slice (some ⟨g1, 0, none⟩) m1 c1) ∧ W'.cell? ⟨w.heap.size + 1, 0, none⟩ = some (.slice (some ⟨g2, 0, none⟩) m1 c2) ∧ W'.cell? ⟨g1, i * 5, none⟩ = some (.string (str p.name)) ∧ W'.cell? ⟨g1, i * 5 + 1, none⟩ = some (.slice ap mp' cp) ∧ W'.cell? ⟨g1, i * 5 + 2, none⟩ = some (.string (str p.result)) ∧ W'.cell? ⟨g1, i * 5 + 3, none⟩ = some (.slice av mv' cv) ∧ W'.cell? ⟨g1, i * 5 + 4, none⟩ = some (.slice ab mb' cb) ∧ W'.cell? ⟨g2, i * 5, none⟩ = some (.string (str p.name)) ∧ W'.cell? ⟨g2, i * 5 + 1, none⟩ = some (.slice ap' mp' cp') ∧ W'.cell? ⟨g2, i * 5 + 2, none⟩ = some (.string (str p.result)) ∧ W'.cell? ⟨g2, i * 5 + 3, none⟩ = some (.slice av' mv' cv') ∧ W'.cell? ⟨g2, i * 5 + 4, none⟩ = some (.slice ab' mb' cb')) (exact keep55 K0.out K1.out lA lB HCA.out HCB.out lt1 lt2 (by repeat (first | exact Below.refl _ _ | refine Below.alloc ?_ ?_ _ | refine Below.setCell ?_ ?_ _ | refine Below.drew ?_ | refine below_drewN ?_ _ | (· simp) | omega | (· simp; omega) | exact Below.size (by assumption) | assumption | refine below_call ?_ (by assumption) ?_))) (first | fail)
        all_goals
          go_wp2_with fail
          go_meet
          first
            | exact ⟨_, _, rfl, rfl, ((BoxL.new _ _ _ _ rfl).alloc _).drew, (boxL_new2 _ _ _ _ _ rfl).drew, (by repeat (first | exact Below.refl _ _ | refine Below.alloc ?_ ?_ _ | refine Below.setCell ?_ ?_ _ | refine Below.drew ?_ | refine below_drewN ?_ _ | (· simp) | omega | (· simp; omega) | exact Below.size (by assumption) | assumption | refine below_call ?_ (by assumption) ?_))⟩
            | exact ⟨_, _, rfl, rfl, (boxL_new2 _ _ _ _ _ rfl).drew, ((BoxL.new _ _ _ _ rfl).alloc _).drew, (by repeat (first | exact Below.refl _ _ | refine Below.alloc ?_ ?_ _ | refine Below.setCell ?_ ?_ _ | refine Below.drew ?_ | refine below_drewN ?_ _ | (· simp) | omega | (· simp; omega) | exact Below.size (by assumption) | assumption | refine below_call ?_ (by assumption) ?_))⟩
      case rest =>
        obtain ⟨gx, gy, rfl, rfl, bX, bY, hbw⟩ := hcut
        have hW := below_call HWR.out hbw HWR.out.size
        have HW := hid (fun W (h : Below wc.heap.size wc W) => below_call hW h hW.size)
        have HW2 := hid (fun W (h : Below wc.heap.size wc W) => below_call HB.out (below_call hbw h hbw.size) HB.out.size)
        have BX := hid bX
        have BY := hid bY
        have lx := bX.lt
        have ly := bY.lt
        have hbc : Below wc.heap.size wc wc := Below.refl _ _
        obtain ⟨x0, x1, x2, x3, x4⟩ := bX.c5
        obtain ⟨y0, y1, y2, y3, y4⟩ := bY.c5
        clear bX bY hbw HCA HCB lt1 lt2 hW k0 k1
        go_wp2_with fail
        refine (rtexts_any _ ok ok' ap ap' mp' cp mp' cp' p.params (SlF.move N1.out (Same.ofBelow (HW.out _ hbc))) (SlF.move N2.out (Same.ofBelow (HW.out _ hbc)))).mono ?_
        rintro e9 wn1 ⟨rfl, hbn⟩
        (have hbd := below_call hbc hbn hbc.size; clear hbc hbn x0 x1 x2 x3 x4 y0 y1 y2 y3 y4; have hbc := hbd; clear hbd; obtain ⟨x0, x1, x2, x3, x4⟩ := (BX.out.keep hbc).c5; obtain ⟨y0, y1, y2, y3, y4⟩ := (BY.out.keep hbc).c5)
        go_wp2_with fail
        refine (rtexts_any _ ok ok' av av' mv' cv mv' cv' p.vars (SlF.move R1.out (Same.ofBelow (HW.out _ hbc))) (SlF.move R2.out (Same.ofBelow (HW.out _ hbc)))).mono ?_
        rintro e9 wn2 ⟨rfl, hbn⟩
        (have hbd := below_call hbc hbn hbc.size; clear hbc hbn x0 x1 x2 x3 x4 y0 y1 y2 y3 y4; have hbc := hbd; clear hbd; obtain ⟨x0, x1, x2, x3, x4⟩ := (BX.out.keep hbc).c5; obtain ⟨y0, y1, y2, y3, y4⟩ := (BY.out.keep hbc).c5)
        go_wp2_with fail
        refine ((rsame_any _ p.body (Nat.le_refl _)) _ ok ok' ab ab' mb' cb mb' cb' (SsF.move S1.out (Same.ofBelow (HW.out _ hbc))) (SsF.move S2.out (Same.ofBelow (HW.out _ hbc)))).mono ?_
        rintro e9 wn3 ⟨rfl, hbn⟩
        (have hbd := below_call hbc hbn hbc.size; clear hbc hbn x0 x1 x2 x3 x4 y0 y1 y2 y3 y4; have hbc := hbd; clear hbd; obtain ⟨x0, x1, x2, x3, x4⟩ := (BX.out.keep hbc).c5; obtain ⟨y0, y1, y2, y3, y4⟩ := (BY.out.keep hbc).c5)
        have HBC := hid hbc
        clear hbc
        go_wp2
        refine ⟨⟨i + 1, by omega, by go_num, HW2.out _ HBC.out⟩, ?_⟩
        simp only [intOf]
        omega
    · obtain rfl : i = m1 := by omega
      have hii : ¬ (i : Int) < (i : Int) := by omega
      have HB := hid (below_call HW0.out hb HW0.out.size)
      go_wp2
      go_ret
      exact ⟨rfl, HB.out⟩
end Go.Proofs.YtjofhaakkleecaaDoor
