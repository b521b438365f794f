/-
  The tree that is read: its nodes; what is known of what is read.
-/
import Derived.Test.YtjofhaakkleecaaDoorQ2
namespace Go.Proofs.YtjofhaakkleecaaDoor
open Go.RowKit Lx
set_option linter.unusedSimpArgs false
set_option linter.unusedVariables false
set_option maxRecDepth 100000

/-- A node's cells. -/
def ndC (t : Nd) : List Value := [.int .i64 (t.k : Int), .int .i64 (t.n : Int), .string (str t.s), .int .i64 t.a, .int .i64 t.b]
theorem ndC_len (t : Nd) : (ndC t).length = 5 := rfl
theorem ndC_one (t : Nd) : ∀ u ∈ ndC t, u.oneCell' = true := by
  intro u hu
  simp [ndC] at hu
  rcases hu with rfl | rfl | rfl | rfl | rfl <;> rfl
theorem Tryd.infoNd : (Tryd.prog.info? 50).map (fun i => (i.zero, i.size, i.bytes)) = some (some (.agg #[.int .i64 0, .int .i64 0, .string ⟨#[]⟩, .int .i64 0, .int .i64 0]), 5, 48) := by kernel_rfl

theorem OwnV.slice {w : World} {base n : Nat} {e : TypeId} {v : Value} {L : List (List Value)} (h : OwnV w base e n v L) : ∃ ao m c, v = .slice ao m c := by
  rcases h.2 with ⟨rfl, h0⟩ | ⟨g, cap, cur, rfl, -⟩
  · exact ⟨none, 0, 0, rfl⟩
  · exact ⟨_, _, cap, rfl⟩

/-- The tree in its box at gT. -/
structure TS (w : World) (B gT gR gt cap : Nat) (T : List Tk) (i d : Nat) (ns : List Nd) : Prop where
  rs : RS w gR gt cap T i d
  tb : ∃ v, Box2 w gT (.pointer (some ⟨gR, 0, none⟩)) v ∧ OwnV w (gT + 1) 50 5 v (ns.map ndC)
  lo : gR < B
  hi : B ≤ gT
  deep : d ≤ 50
section
variable {w w' : World} {B gT gR gt cap i d : Nat} {T : List Tk} {ns : List Nd}
theorem TS.lt (h : TS w B gT gR gt cap T i d ns) : gt < gR ∧ gR < gT ∧ gT < w.heap.size := by
  obtain ⟨v, hb, -⟩ := h.tb
  exact ⟨h.rs.lt, Nat.lt_of_lt_of_le h.lo h.hi, hb.lt⟩
theorem TS.below (h : TS w B gT gR gt cap T i d ns) (hb : Below w.heap.size w w') : TS w' B gT gR gt cap T i d ns := by
  obtain ⟨v, h1, h2⟩ := h.tb
  exact ⟨h.rs.below hb, ⟨v, h1.at (hb.block gT h1.lt), h2.below hb⟩, h.lo, h.hi, h.deep⟩
/-- The reader has moved, the tree has not. -/
theorem TS.moved {i' d' : Nat} (h : TS w B gT gR gt cap T i d ns) (hr : RS w' gR gt cap T i' d') (hg : w.grownBy w' (some gR)) (hd : d' ≤ 50) : TS w' B gT gR gt cap T i' d' ns := by
  obtain ⟨v, h1, h2⟩ := h.tb
  have hl := h.lt
  exact ⟨hr, ⟨v, h1.at (hg.block gT h1.lt (by simp; omega)), h2.kept hg (by intro g e; simp at e; omega)⟩, h.lo, h.hi, hd⟩
end
/-- What a reader of the tree tells. -/
def TOut (w : World) (B gT gR gt cap : Nat) (T : List Tk) (d : Nat) (res : R (List Nd)) (e : Ending) (w' : World) : Prop :=
  match res with
  | .ok ns j => e = .returned (.tuple #[]) ∧ TS w' B gT gR gt cap T j d ns ∧ Kx B gR w w'
  | .bad x j => Gone T x j e ∧ Kx B gR w w'

section
variable {w w' : World} {B gT gR gt cap i d : Nat} {T : List Tk} {ns : List Nd}
theorem proot_any (h : TS w B gT gR gt cap T i d ns) (hn : ns.length ≤ 8200) : Calls Tryd.prog 64 #[.pointer (some ⟨gT, 0, none⟩)] w fun e w' => e = .returned (.int .i64 (lastI ns)) ∧ w' = w := by
  obtain ⟨v, hb, ho⟩ := h.tb
  obtain ⟨ao, c, rfl, hc1, hc2, -⟩ := ho.shape (by simp; intro t _; rfl)
  obtain ⟨c0, c1⟩ := hb.c
  rw [List.length_map] at c1
  have hcl : (ns.length : Int) ≤ 8200 := by omega
  unfold lastI
  clear h hb ho hc1 hc2
  generalize ns.length = n at *
  go_enter Tryd.func64, Tryd.ntmps64
  go_wp2
  go_ret
  exact ⟨rfl, rfl⟩
theorem padd_any (h : TS w B gT gR gt cap T i d ns) (hn : ns.length ≤ 8200) (k : Nat) (a b : Int) : Calls Tryd.prog 65 #[.pointer (some ⟨gT, 0, none⟩), .int .i64 (k : Int), .int .i64 a, .int .i64 b] w fun e w' => e = .returned (.tuple #[]) ∧ TS w' B gT gR gt cap T i d (ns ++ [⟨k, 0, [], a, b⟩]) ∧ Kx B gR w w' := by
  obtain ⟨v, hb, ho⟩ := h.tb
  obtain ⟨c0, c1⟩ := hb.c
  have cf := hb.f
  have cl := hb.lt
  have HS := hid h
  have HOL : Hid (∀ g, v.ownBlock = some g → gT + 1 ≤ g ∧ g < w.heap.size) := hid (fun g hv => World.ownsRow.lt ho g hv)
  have hn2 : (ns.map ndC).length ≤ 1000000 := by rw [List.length_map]; omega
  have HN2 := hid hn2
  have HB := hid hb
  have HW : Hid (Below w.heap.size w (w.alloc (.cells #[.int .i64 (k : Int), .int .i64 0, .string ⟨#[]⟩, .int .i64 a, .int .i64 b] 50))) := hid ((Below.refl _ _).alloc (Nat.le_refl _) _)
  have HO := hid (ho.below HW.out)
  have HC : Hid (CellsAt (w.alloc (.cells #[.int .i64 (k : Int), .int .i64 0, .string ⟨#[]⟩, .int .i64 a, .int .i64 b] 50)) w.heap.size 0 (ndC ⟨k, 0, [], a, b⟩)) := hid (by
    intro c u hu
    have e := cell_of_row (w.alloc (.cells #[.int .i64 (k : Int), .int .i64 0, .string ⟨#[]⟩, .int .i64 a, .int .i64 b] 50)) w.heap.size c #[.int .i64 (k : Int), .int .i64 0, .string ⟨#[]⟩, .int .i64 a, .int .i64 b] _ _ (heap_alloc_new w _)
    rw [Nat.zero_add, e, ← hu]
    simp [ndC, str])
  have HSZ : Hid (gT + 1 ≤ (w.alloc (.cells #[.int .i64 (k : Int), .int .i64 0, .string ⟨#[]⟩, .int .i64 a, .int .i64 b] 50)).heap.size) := hid (by simp; omega)
  clear h hb ho hn2
  go_enter Tryd.func65, Tryd.ntmps65
  go_wp2_with (at_builtin; go_must (refine wpList_append_v 40 50 5 48 _ Tryd.underlying40 Tryd.infoNd rfl (by decide) (by decide) rfl (.tmp 12) (.tmp 17) rfl (gT + 1) _ (ns.map ndC) rfl HO.out w.heap.size 1 (ndC ⟨k, 0, [], a, b⟩) rfl rfl HC.out (ndC_one _) HN2.out HSZ.out ?_); intro v3 w3 hown3 hg3; obtain ⟨ao3, m3, c3, rfl⟩ := hown3.slice; have hb3 := (HB.out.at (HW.out.block gT cl)).at (hg3.block gT (by simp; omega) (fun e => by have := HOL.out _ e.symm; omega)); obtain ⟨s0, s1⟩ := hb3.c; have sf := hb3.f; have sl := hb3.lt)
  go_end0
  refine ⟨rfl, ⟨?_, ⟨_, hb3.set1 _, ?_⟩, HS.out.lo, HS.out.hi, HS.out.deep⟩, ?_⟩
  · have hl := HS.out.lt
    have h2 := (HS.out.rs.below HW.out)
    have h3 := h2.at (w' := w3) (hg3.block gt (by simp; omega) (fun e => by have := HOL.out _ e.symm; omega)) (h2.box.at (hg3.block gR (by simp; omega) (fun e => by have := HOL.out _ e.symm; omega)))
    exact h3.at (heap_setCell_other w3 ⟨gT, 1, none⟩ gt _ (by simp; omega)) (h3.box.at (heap_setCell_other w3 ⟨gT, 1, none⟩ gR _ (by simp; omega)))
  · rw [List.map_append]
    exact hown3.same fun b hb hl => heap_setCell_other w3 ⟨gT, 1, none⟩ b _ (by simp; omega)
  · have hl := HS.out.lt
    have h1 : Kx B gR w (w.alloc (.cells #[.int .i64 (k : Int), .int .i64 0, .string ⟨#[]⟩, .int .i64 a, .int .i64 b] 50)) := (Kx.refl _ _ _).alloc (by have := HS.out.hi; omega) _
    exact (h1.grown hg3 (by have := HS.out.hi; simp; omega) (fun g e => by have := HOL.out _ e; have := HS.out.hi; omega)).set (by have := HS.out.hi; simp; omega) _
end
end Go.Proofs.YtjofhaakkleecaaDoor
