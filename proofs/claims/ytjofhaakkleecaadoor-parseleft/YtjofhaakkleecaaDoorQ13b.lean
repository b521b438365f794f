/-
  Walks: no call is next.
-/
import Derived.Test.YtjofhaakkleecaaDoorQ13
namespace Go.Proofs.YtjofhaakkleecaaDoor
open Go.RowKit Lx
set_option linter.unusedSimpArgs false
set_option linter.unusedVariables false
set_option maxRecDepth 100000

/-- An operation that is not wanted is passed by. -/
theorem any_skip {P : Program} {md : Region.Mode} {ops : Array Oper} {Q : Exit → Act → World → Prop} {i : Nat} {oi : Oper} {fuel : Nat} {listed : Array Bool} {a : Act} {w : World} (hi : ops[i]? = some oi)
    (hQ : ∀ c a w, Q (.panic c) (a.put oi.dst undef) w → Q (.panic c) a w) (hs : Region.noSelect ops = true) (hf : Region.free md ops listed i = true) (hr : (Region.ready md ops listed).contains i = true)
    (hg : Region.wanted oi (yielded ops a.tmps) = false) (ha : a.put oi.dst undef = a)
    (h : wpAny P md ops Q fuel (listed.setIfInBounds i true) a w) : wpAny P md ops Q (fuel + 1) listed a w :=
  wpAny_take (v := undef) hi hs hf hr hQ (Or.inr ⟨hg, rfl⟩) (by rw [ha]; exact h)
section
variable {w : World} {gR gt cap i d : Nat} {T : List Tk}
set_option maxHeartbeats 3200000 in
theorem pcalls_no (ok : Tks.Ok T) (h : RS w gR gt cap T i d) (hi : i < T.length) (hk : (tks T i).k ≠ 1) : Calls Tryd.prog 52 #[.pointer (some ⟨gR, 0, none⟩)] w fun e w' => e = .returned (.bool (callsB (tks T) i)) ∧ Below w.heap.size w w' := by
  have HN := hid (fun W (hh : RS W gR gt cap T i d) => pnext_any hh hi)
  have HS := hid h
  obtain ⟨c0, c1, c2⟩ := h.box.c
  have hz1 := h.box.lt
  have hz2 : gt < w.heap.size := Nat.lt_trans h.lt hz1
  have hlen := h.len
  have hcp := h.cap
  have HU : Hid (callsB (tks T) i = false) := hid (by unfold callsB; rw [decide_eq_false hk, Bool.false_and])
  have HL := hid (show ∀ W, Below w.heap.size w W → W.cell? ⟨gR, 0, none⟩ = some (.slice (some ⟨gt, 0, none⟩) T.length cap) ∧ W.cell? ⟨gR, 1, none⟩ = some (.int .i64 (i : Int)) from fun W hb => ⟨(hb.cell (p := ⟨gR, 0, none⟩) hz1).trans c0, (hb.cell (p := ⟨gR, 1, none⟩) hz1).trans c1⟩)
  obtain ⟨z, hz⟩ : ∃ z : Int, ((tks T i).k : Int) = z := ⟨_, rfl⟩
  have HN1 : Hid (∀ W, RS W gR gt cap T i d → Calls Tryd.prog 19 #[.pointer (some ⟨gR, 0, none⟩)] W fun e w' => e = .returned (.agg #[.int .i64 z, .string (str (tks T i).t), .int .i64 ((tks T i).p : Int)]) ∧ Below W.heap.size W w') := hid fun W hh => by have := HN.out W hh; rw [hz] at this; exact this
  have hz4 : z = 0 ∨ z = 2 ∨ z = 3 ∨ z = 4 := by have := ok.kind i hi; rw [← tks_get hi] at this; omega
  clear h ok hk hi hz HN
  rcases hz4 with rfl | rfl | rfl | rfl
  all_goals
    go_enter Tryd.func52, Tryd.ntmps52
    go_wp2_with fail
    have hbw : Below w.heap.size w w.drew := (Below.refl _ _).drew
    refine wp_region_any (by kernel_rfl) ?_
    (try (change wpAny _ _ _ _ _ _ _ (World.drew _)))
    refine wpAny_take (i := 0) (v := ?_) rfl (by kernel_rfl) (by kernel_rfl) (by kernel_rfl) (fun _ _ _ h => h) (Or.inl ⟨by rfl, ?_⟩) ?_
    rotate_left
    · intro w; go_simp; try with_reducible rfl
    refine wpAny_ready (rs := [1]) (by kernel_rfl) (by simp) ?_
    refine AllReady.cons rfl (fun K hK => ?_) AllReady.nil
    go_simp
    go_wp2_with (go_at_call 19; refine (HN1.out _ HS.out.drew).mono ?_; rintro e w1 ⟨rfl, hb1⟩; have hbn := below_call hbw hb1 hbw.size; clear hbw hb1; have hbw := hbn; clear hbn)
    refine wpAny_take (i := 2) (v := ?_) rfl (by kernel_rfl) (by kernel_rfl) (by kernel_rfl) (fun _ _ _ h => h) (Or.inl ⟨by rfl, ?_⟩) ?_
    rotate_left
    · intro w; go_simp; try with_reducible rfl
    refine wpAny_take (i := 3) (v := ?_) rfl (by kernel_rfl) (by kernel_rfl) (by kernel_rfl) (fun _ _ _ h => h) (Or.inl ⟨by rfl, ?_⟩) ?_
    rotate_left
    · intro w; go_simp; try with_reducible rfl
    refine wpAny_take (i := 4) (v := ?_) rfl (by kernel_rfl) (by kernel_rfl) (by kernel_rfl) (fun _ _ _ h => h) (Or.inl ⟨by rfl, ?_⟩) ?_
    rotate_left
    · intro w; go_simp; try with_reducible rfl
    simp only [Act.put]
    refine any_skip (i := 5) rfl (fun _ _ _ h => h) (by kernel_rfl) (by kernel_rfl) (by kernel_rfl) (by rfl) (by rfl) ?_
    refine any_skip (i := 6) rfl (fun _ _ _ h => h) (by kernel_rfl) (by kernel_rfl) (by kernel_rfl) (by rfl) (by rfl) ?_
    refine any_skip (i := 7) rfl (fun _ _ _ h => h) (by kernel_rfl) (by kernel_rfl) (by kernel_rfl) (by rfl) (by rfl) ?_
    refine any_skip (i := 8) rfl (fun _ _ _ h => h) (by kernel_rfl) (by kernel_rfl) (by kernel_rfl) (by rfl) (by rfl) ?_
    refine any_skip (i := 9) rfl (fun _ _ _ h => h) (by kernel_rfl) (by kernel_rfl) (by kernel_rfl) (by rfl) (by rfl) ?_
    refine any_skip (i := 10) rfl (fun _ _ _ h => h) (by kernel_rfl) (by kernel_rfl) (by kernel_rfl) (by rfl) (by rfl) ?_
    refine any_skip (i := 11) rfl (fun _ _ _ h => h) (by kernel_rfl) (by kernel_rfl) (by kernel_rfl) (by rfl) (by rfl) ?_
    refine any_skip (i := 12) rfl (fun _ _ _ h => h) (by kernel_rfl) (by kernel_rfl) (by kernel_rfl) (by rfl) (by rfl) ?_
    refine any_skip (i := 13) rfl (fun _ _ _ h => h) (by kernel_rfl) (by kernel_rfl) (by kernel_rfl) (by rfl) (by rfl) ?_
    refine any_skip (i := 14) rfl (fun _ _ _ h => h) (by kernel_rfl) (by kernel_rfl) (by kernel_rfl) (by rfl) (by rfl) ?_
    refine any_skip (i := 15) rfl (fun _ _ _ h => h) (by kernel_rfl) (by kernel_rfl) (by kernel_rfl) (by rfl) (by rfl) ?_
    refine any_skip (i := 16) rfl (fun _ _ _ h => h) (by kernel_rfl) (by kernel_rfl) (by kernel_rfl) (by rfl) (by rfl) ?_
    refine any_skip (i := 17) rfl (fun _ _ _ h => h) (by kernel_rfl) (by kernel_rfl) (by kernel_rfl) (by rfl) (by rfl) ?_
    refine wpAny_take (i := 18) (v := ?_) rfl (by kernel_rfl) (by kernel_rfl) (by kernel_rfl) (fun _ _ _ h => h) (Or.inl ⟨by rfl, ?_⟩) ?_
    rotate_left
    · intro w; go_simp; try with_reducible rfl
    refine wpAny_take (i := 19) (v := ?_) rfl (by kernel_rfl) (by kernel_rfl) (by kernel_rfl) (fun _ _ _ h => h) (Or.inl ⟨by rfl, ?_⟩) ?_
    rotate_left
    · intro w; go_simp; try with_reducible rfl
    refine wpAny_done (by kernel_rfl) ?_ _
    go_simp
    go_wp2
    go_ret
    rw [HU.out]
    exact ⟨rfl, hbw⟩
end
end Go.Proofs.YtjofhaakkleecaaDoor
