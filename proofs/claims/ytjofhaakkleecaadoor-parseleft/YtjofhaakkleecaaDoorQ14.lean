/-
  Walks: calls, as statements.
-/
import Derived.Test.YtjofhaakkleecaaDoorQ13b
namespace Go.Proofs.YtjofhaakkleecaaDoor
open Go.RowKit Lx
set_option linter.unusedSimpArgs false
set_option linter.unusedVariables false
set_option maxRecDepth 100000

/-- A block of seven cells. -/
def Box7 (w : World) (g : Nat) (x0 x1 x2 x3 x4 x5 x6 : Value) : Prop := ∃ T, w.heap[g]? = some (.cells #[x0, x1, x2, x3, x4, x5, x6] T (0, 0))
section
variable {w w' : World} {g : Nat} {x0 x1 x2 x3 x4 x5 x6 : Value}
theorem Box7.lt (h : Box7 w g x0 x1 x2 x3 x4 x5 x6) : g < w.heap.size := by
  obtain ⟨T, h⟩ := h
  exact (Array.getElem?_eq_some_iff.1 h).1
theorem Box7.c (h : Box7 w g x0 x1 x2 x3 x4 x5 x6) : w.cell? ⟨g, 0, none⟩ = some x0 ∧ w.cell? ⟨g, 1, none⟩ = some x1 ∧ w.cell? ⟨g, 2, none⟩ = some x2 ∧ w.cell? ⟨g, 3, none⟩ = some x3 ∧ w.cell? ⟨g, 4, none⟩ = some x4 ∧ w.cell? ⟨g, 5, none⟩ = some x5 ∧ w.cell? ⟨g, 6, none⟩ = some x6 := by
  obtain ⟨T, h⟩ := h
  refine ⟨?_, ?_, ?_, ?_, ?_, ?_, ?_⟩
  · rw [cell_of_row w g 0 _ _ _ h]; rfl
  · rw [cell_of_row w g 1 _ _ _ h]; rfl
  · rw [cell_of_row w g 2 _ _ _ h]; rfl
  · rw [cell_of_row w g 3 _ _ _ h]; rfl
  · rw [cell_of_row w g 4 _ _ _ h]; rfl
  · rw [cell_of_row w g 5 _ _ _ h]; rfl
  · rw [cell_of_row w g 6 _ _ _ h]; rfl
theorem Box7.f (h : Box7 w g x0 x1 x2 x3 x4 x5 x6) (i : Nat) : w.frozen? ⟨g, i, none⟩ = false := by
  obtain ⟨T, h⟩ := h
  exact frozen_of_row w g i _ _ h
theorem Box7.at (h : Box7 w g x0 x1 x2 x3 x4 x5 x6) (hs : w'.heap[g]? = w.heap[g]?) : Box7 w' g x0 x1 x2 x3 x4 x5 x6 := by
  obtain ⟨T, h⟩ := h
  exact ⟨T, hs.trans h⟩
theorem Box7.keep (h : Box7 w g x0 x1 x2 x3 x4 x5 x6) (hb : Below w.heap.size w w') : Box7 w' g x0 x1 x2 x3 x4 x5 x6 := h.at (hb.block g h.lt)
theorem Box7.grown {row : Option Nat} (h : Box7 w g x0 x1 x2 x3 x4 x5 x6) (hg : w.grownBy w' row) (hne : some g ≠ row) : Box7 w' g x0 x1 x2 x3 x4 x5 x6 := h.at (hg.block g h.lt hne)
theorem Box7.new (w : World) (x0 x1 x2 x3 x4 x5 x6 : Value) (T : TypeId) : Box7 (w.alloc (.cells #[x0, x1, x2, x3, x4, x5, x6] T)) w.heap.size x0 x1 x2 x3 x4 x5 x6 := ⟨T, heap_alloc_new w _⟩
end
section
variable {w : World} {g : Nat} {x0 x1 x2 x3 x4 x5 x6 : Value}
theorem Box7.other (h : Box7 w g x0 x1 x2 x3 x4 x5 x6) {b c : Nat} (hb : b ≠ g) (u : Value) : Box7 (w.setCell ⟨b, c, none⟩ u) g x0 x1 x2 x3 x4 x5 x6 := h.at (heap_setCell_other w ⟨b, c, none⟩ g u (by simpa using hb.symm))
theorem Box7.set0 (h : Box7 w g x0 x1 x2 x3 x4 x5 x6) (u : Value) : Box7 (w.setCell ⟨g, 0, none⟩ u) g u x1 x2 x3 x4 x5 x6 := by
  obtain ⟨T, h⟩ := h; exact ⟨T, by rw [heap_setCell_same w g 0 _ T u h]; rfl⟩
theorem Box7.set1 (h : Box7 w g x0 x1 x2 x3 x4 x5 x6) (u : Value) : Box7 (w.setCell ⟨g, 1, none⟩ u) g x0 u x2 x3 x4 x5 x6 := by
  obtain ⟨T, h⟩ := h; exact ⟨T, by rw [heap_setCell_same w g 1 _ T u h]; rfl⟩
theorem Box7.set2 (h : Box7 w g x0 x1 x2 x3 x4 x5 x6) (u : Value) : Box7 (w.setCell ⟨g, 2, none⟩ u) g x0 x1 u x3 x4 x5 x6 := by
  obtain ⟨T, h⟩ := h; exact ⟨T, by rw [heap_setCell_same w g 2 _ T u h]; rfl⟩
theorem Box7.set3 (h : Box7 w g x0 x1 x2 x3 x4 x5 x6) (u : Value) : Box7 (w.setCell ⟨g, 3, none⟩ u) g x0 x1 x2 u x4 x5 x6 := by
  obtain ⟨T, h⟩ := h; exact ⟨T, by rw [heap_setCell_same w g 3 _ T u h]; rfl⟩
theorem Box7.set4 (h : Box7 w g x0 x1 x2 x3 x4 x5 x6) (u : Value) : Box7 (w.setCell ⟨g, 4, none⟩ u) g x0 x1 x2 x3 u x5 x6 := by
  obtain ⟨T, h⟩ := h; exact ⟨T, by rw [heap_setCell_same w g 4 _ T u h]; rfl⟩
theorem Box7.set5 (h : Box7 w g x0 x1 x2 x3 x4 x5 x6) (u : Value) : Box7 (w.setCell ⟨g, 5, none⟩ u) g x0 x1 x2 x3 x4 u x6 := by
  obtain ⟨T, h⟩ := h; exact ⟨T, by rw [heap_setCell_same w g 5 _ T u h]; rfl⟩
theorem Box7.set6 (h : Box7 w g x0 x1 x2 x3 x4 x5 x6) (u : Value) : Box7 (w.setCell ⟨g, 6, none⟩ u) g x0 x1 x2 x3 x4 x5 u := by
  obtain ⟨T, h⟩ := h; exact ⟨T, by rw [heap_setCell_same w g 6 _ T u h]; rfl⟩
theorem Box7.store (h : Box7 w g x0 x1 x2 x3 x4 x5 x6) (y0 y1 y2 y3 y4 y5 y6 : Value) : Box7 (((((((w.setCell ⟨g, 0, none⟩ y0).setCell ⟨g, 1, none⟩ y1).setCell ⟨g, 2, none⟩ y2).setCell ⟨g, 3, none⟩ y3).setCell ⟨g, 4, none⟩ y4).setCell ⟨g, 5, none⟩ y5).setCell ⟨g, 6, none⟩ y6) g y0 y1 y2 y3 y4 y5 y6 :=
  ((((((h.set0 y0).set1 y1).set2 y2).set3 y3).set4 y4).set5 y5).set6 y6
end
theorem res_call {W : World} {g : Nat} {y0 y1 y2 y3 y4 y5 y6 : Value} (tmps : Array Value) (hg : tmps[4]? = some (.pointer (some ⟨g, 0, none⟩))) (h : Box7 W g y0 y1 y2 y3 y4 y5 y6) : (results Tryd.f53 tmps).run Tryd.prog W = .ok (.agg #[y0, y1, y2, y3, y4, y5, y6]) W := by
  obtain ⟨c0, c1, c2, c3, c4, c5, c6⟩ := h.c
  simp [results, Tryd.results53, go_sem, hg, c0, c1, c2, c3, c4, c5, c6]
/-- Beneath the block M, and from the block N on, nothing has turned; nor has the number of blocks. -/
structure Mid (M N : Nat) (w w' : World) : Prop where
  os : w'.os = w.os
  tape : w'.tape = w.tape
  output : w'.output = w.output
  size : w'.heap.size = w.heap.size
  block : ∀ b, (b < M ∨ N ≤ b) → w'.heap[b]? = w.heap[b]?
theorem Mid.refl (M N : Nat) (w : World) : Mid M N w w := ⟨rfl, rfl, rfl, rfl, fun _ _ => rfl⟩
theorem Mid.set {M N : Nat} {w w' : World} (h : Mid M N w w') {b c : Nat} (h1 : M ≤ b) (h2 : b < N) (u : Value) : Mid M N w (w'.setCell ⟨b, c, none⟩ u) :=
  ⟨h.os, h.tape, h.output, by have := h.size; simpa [World.setCell] using this, fun k hk => (heap_setCell_other w' ⟨b, c, none⟩ k u (by simp; omega)).trans (h.block k hk)⟩
theorem Mid.same {N M : Nat} {w w' : World} (h : Mid M N w w') (hM : M ≤ N) : Same w w' (fun b => N ≤ b) (fun b => M ≤ b) := ⟨Nat.le_of_eq h.size.symm, fun b _ hb => ⟨h.block b (.inr hb), Nat.le_trans hM hb⟩⟩
theorem Mid.close {N : Nat} {w0 w w' : World} {gR gt cap i d : Nat} {T : List Tk} (h : Mid w0.heap.size N w w') (hr : RS w gR gt cap T i d) (hR : gR < w0.heap.size) (hg : w0.grownBy w (some gR)) : RS w' gR gt cap T i d ∧ w0.grownBy w' (some gR) :=
  ⟨hr.at (h.block gt (.inl (Nat.lt_trans hr.lt hR))) (hr.box.at (h.block gR (.inl hR))), ⟨h.os.trans hg.os, h.tape.trans hg.tape, h.output.trans hg.output, by rw [h.size]; exact hg.size, fun k hk hne => (h.block k (.inl hk)).trans (hg.block k hk hne)⟩⟩
theorem stv_mk {w : World} {ok : Nat → Prop} {k : Nat} {name proc : List Nat} {e : List Nd} {args : List (List Nd)} {body els : List St} {ae aa ab al : Option Addr} {me ce ma ca mb cb ml cl : Nat} (h1 : NdF w ok ae me ce e) (h2 : ArF w ok aa ma ca args) (h3 : SsF w ok ab mb cb body) (h4 : SsF w ok al ml cl els) :
    StV w ok (.mk k name proc e args body els) (.agg #[.int .i64 (k : Int), .string (str name), .string (str proc), .slice ae me ce, .slice aa ma ca, .slice ab mb cb, .slice al ml cl]) := by
  unfold StV
  obtain ⟨vb, b1, b2⟩ := h3
  obtain ⟨vl, l1, l2⟩ := h4
  exact ⟨ae, me, ce, aa, ma, ca, ab, mb, cb, al, ml, cl, vb, vl, rfl, h1, h2, ⟨b1, b2⟩, l1, l2⟩
theorem rout_close {w w3 wf : World} {N gR gt cap j d : Nat} {T : List Tk} {s : St} {v : Value} (hmid : Mid w.heap.size N w3 wf) (hr : RS w3 gR gt cap T j d) (hR : gR < w.heap.size) (hg : w.grownBy w3 (some gR)) (hN : w.heap.size ≤ N) (hs : StV w3 (fun b => N ≤ b) s v) :
    ROut w gR gt cap T d (fun ok w' s v => StV w' ok s v) (.ok s j) (.returned v) wf := by
  obtain ⟨h1, h2⟩ := hmid.close hr hR hg
  exact ⟨⟨v, rfl, stv_move (hmid.same hN) s v hs⟩, h1, h2⟩
theorem RS.new {w : World} {gR gt cap i d b c : Nat} {T : List Tk} (h : RS w gR gt cap T i d) (hb : b ≠ gR) (hb2 : b ≠ gt) (u : Value) : RS (w.setCell ⟨b, c, none⟩ u) gR gt cap T i d :=
  h.at (heap_setCell_other w _ gt u (by simpa using hb2.symm)) (h.box.at (heap_setCell_other w _ gR u (by simpa using hb.symm)))
theorem pcalls_any {w : World} {gR gt cap i d : Nat} {T : List Tk} (ok : Tks.Ok T) (h : RS w gR gt cap T i d) (hi : i < T.length) : Calls Tryd.prog 52 #[.pointer (some ⟨gR, 0, none⟩)] w fun e w' => e = .returned (.bool (callsB (tks T) i)) ∧ Below w.heap.size w w' := by
  by_cases hk : (tks T i).k = 1
  · exact pcalls_yes ok h hi hk
  · exact pcalls_no ok h hi hk

section
variable {w : World} {gR gt cap i d : Nat} {T : List Tk}
theorem plist_nodes (ok : Tks.Ok T) {F d : Nat} (hF : T.length ≤ F) (hd : d ≤ 50) (w : World) (gR gt cap i : Nat) (h : RS w gR gt cap T i d) (hi : i < T.length) :
    Calls Tryd.prog 58 #[.pointer (some ⟨gR, 0, none⟩), .func (.func 54) #[.pointer (some ⟨gR, 0, none⟩)] #[]] w (ROut w gR gt cap T d (fun ok w' A v => ∃ ao m cap, v = .slice ao m cap ∧ ∃ vs, SlF w' ok 1 ao m cap vs ∧ AllV (NdQ w' ok) A vs) (listR (tks T) F (exprR (tks T) F d) i)) :=
  plisted_nd ok hF hd (fun i hi => expr_fine ok F d hi) w gR gt cap i h hi (fun W j hh hj => pexpr_any ok hF hh hd hj)
set_option maxHeartbeats 1600000 in
theorem pcall_any (ok : Tks.Ok T) {F : Nat} (hF : T.length ≤ F) (h : RS w gR gt cap T i d) (hd : d ≤ 50) (hi : i < T.length) (nm : List Nat) :
    Calls Tryd.prog 53 #[.pointer (some ⟨gR, 0, none⟩), .string (str nm)] w (ROut w gR gt cap T d (fun ok w' s v => StV w' ok s v) (callR (tks T) F d nm i)) := by
  have hz := h.box.lt
  have hz2 := h.lt
  have HR0 := hid (h.below ((Below.refl _ _).alloc (Nat.le_refl _) (.cells #[.int .i64 0, .string ⟨#[]⟩, .string ⟨#[]⟩, .slice none 0 0, .slice none 0 0, .slice none 0 0, .slice none 0 0] 48)))
  by_cases hk : (tks T i).k = 1
  · have hm := ok.more hi (by rw [tks_get hi] at hk ⊢; exact ok.name i hi (.inl hk))
    have HN := hid (pname_yes HR0.out hi hk)
    have HU1 : Hid (callR (tks T) F d nm i = (listR (tks T) F (exprR (tks T) F d) (i + 1)).bind fun l k => .ok (.mk 8 nm (tks T i).t [] l [] []) k) := hid (by unfold callR nameR; rw [if_pos hk]; rfl)
    have HL := hid (fun W hh => plist_nodes ok hF hd W gR gt cap (i + 1) hh hm)
    clear h hk ok hF hi hm
    generalize hq : listR (tks T) F (exprR (tks T) F d) (i + 1) = q at *
    clear hq
    go_enter Tryd.func53, Tryd.ntmps53
    go_wp2_with fail
    refine HN.out.mono ?_
    rintro e w1 ⟨rfl, hr1, hg1⟩
    have HB1 := hid ((Box7.new w (.int .i64 0) (.string ⟨#[]⟩) (.string ⟨#[]⟩) (.slice none 0 0) (.slice none 0 0) (.slice none 0 0) (.slice none 0 0) 48).grown hg1 (by simp; omega))
    have hz1 : w.heap.size + 1 ≤ w1.heap.size := by have := hg1.size; simpa using this
    have HG1 := hid (grow_trans (grow_alloc (grow_refl w (some gR)) _) hg1)
    have hw2 : Below w1.heap.size w1 (w1.alloc (.cells #[.int .i64 8, .string (str nm), .string (str (tks T i).t), .slice none 0 0, .slice none 0 0, .slice none 0 0, .slice none 0 0] 48)) := (Below.refl _ _).alloc (Nat.le_refl _) _
    have HR2 := hid (hr1.below hw2)
    have HB2 := hid (HB1.out.keep hw2)
    have HB3 := hid (Box7.new w1 (.int .i64 8) (.string (str nm)) (.string (str (tks T i).t)) (.slice none 0 0) (.slice none 0 0) (.slice none 0 0) (.slice none 0 0) 48)
    have HG2 := hid (grow_below HG1.out hw2)
    clear hr1 hg1 hw2
    go_wp2_with fail
    refine (HL.out _ HR2.out).mono ?_
    intro e w3 h3
    rcases rout_cases h3 with ⟨A, j, v, hr, rfl, ⟨ao, m, c, rfl, hv⟩, hr3, hg3⟩ | ⟨x, j, hr, hg, hg3⟩
    · have hb4 := HB2.out.grown hg3 (by simp; omega)
      have hb5 := HB3.out.grown hg3 (by simp; omega)
      obtain ⟨p0, p1, p2, p3, p4, p5, p6⟩ := hb4.c
      obtain ⟨q0, q1, q2, q3, q4, q5, q6⟩ := hb5.c
      have pf := hb4.f
      have qf := hb5.f
      have pl := hb4.lt
      have ql := hb5.lt
      have HV := hid hv
      have HB4 := hid hb4
      have HR3 := hid hr3
      have HG3 := hid (grow_trans HG2.out hg3)
      have HZ3 : Hid (w1.heap.size + 1 ≤ w3.heap.size) := hid (by have := hg3.size; simpa using this)
      have HRR := hid hr
      clear h3 hr hr3 hg3 hv hb4 hb5
      have hne : ¬ w1.heap.size = w.heap.size := by omega
      have hne2 : ¬ w.heap.size = w1.heap.size := by omega
      go_wp2_with fail
      refine bodyPost_ret (res_call _ rfl ((HB4.out.other hne _).store _ _ _ _ _ _ _)) rfl ?_
      rw [HU1.out, HRR.out]
      obtain ⟨vs, hv1, hv2⟩ := HV.out
      have hv3 : ArF w3 (fun b => w1.heap.size + 1 ≤ b) ao m c A := ⟨vs, hv1.move ⟨Nat.le_refl _, fun b _ hb => ⟨rfl, by simpa using hb⟩⟩, hv2.imp fun a v h => NdV.move h ⟨Nat.le_refl _, fun b _ hb => ⟨rfl, by simpa using hb⟩⟩⟩
      refine rout_close (N := w1.heap.size + 1) (w3 := w3) ?_ HR3.out hz HG3.out (by omega) (stv_mk (nd_nil _ _) hv3 (ss_nil _ _) (ss_nil _ _))
      (repeat (first | with_reducible exact Mid.refl _ _ _ | (with_reducible refine Mid.set ?_ (by omega) (by omega) _)))
    · unfold Gone at hg
      subst hg
      subst hr
      refine ⟨rfl, ?_⟩
      rw [HU1.out]
      exact ⟨rfl, grow_trans HG2.out hg3⟩
  · have HN := hid (pname_no HR0.out hi hk)
    have HU : Hid (callR (tks T) F d nm i = .bad 4 i) := hid (by unfold callR nameR; rw [if_neg hk]; rfl)
    clear h hk ok hF hi
    go_enter Tryd.func53, Tryd.ntmps53
    go_wp2_with fail
    refine HN.out.mono ?_
    rintro e w1 ⟨hg, hb1⟩
    unfold Gone at hg
    subst hg
    refine ⟨rfl, ?_⟩
    rw [HU.out]
    exact ⟨rfl, grow_below (grow_alloc (grow_refl _ _) _) hb1⟩
end
end Go.Proofs.YtjofhaakkleecaaDoor
