/-
  Walks: is a call next; calls.
-/
import Derived.Test.YtjofhaakkleecaaDoorQ12a
import Derived.Test.YtjofhaakkleecaaDoorQ12b
namespace Go.Proofs.YtjofhaakkleecaaDoor
open Go.RowKit Lx
set_option linter.unusedSimpArgs false
set_option linter.unusedVariables false
set_option maxRecDepth 100000

section
variable {w : World} {gR gt cap i d : Nat} {T : List Tk}
theorem pname_out (ok : Tks.Ok T) (h : RS w gR gt cap T i d) (hi : i < T.length) : Calls Tryd.prog 26 #[.pointer (some ⟨gR, 0, none⟩)] w (ROut w gR gt cap T d (fun ok w' a v => TxQ w' ok a v) (nameR (tks T) i)) := by
  by_cases hk : (tks T i).k = 1
  · refine (pname_yes h hi hk).mono ?_
    rintro e w1 ⟨rfl, h1, h2⟩
    unfold nameR
    rw [if_pos hk]
    exact ⟨⟨_, rfl, rfl⟩, h1, h2⟩
  · refine (pname_no h hi hk).mono ?_
    rintro e w1 ⟨h1, h2⟩
    unfold nameR
    rw [if_neg hk]
    exact ⟨h1, grow_below (grow_refl _ _) h2⟩
set_option maxHeartbeats 3200000 in
theorem pcalls_yes (ok : Tks.Ok T) (h : RS w gR gt cap T i d) (hi : i < T.length) (hk : (tks T i).k = 1) : Calls Tryd.prog 52 #[.pointer (some ⟨gR, 0, none⟩)] w fun e w' => e = .returned (.bool (callsB (tks T) i)) ∧ Below w.heap.size w w' := by
  have HN := hid (fun W (hh : RS W gR gt cap T i d) => pnext_any hh hi)
  have HS := hid h
  obtain ⟨c0, c1, c2⟩ := h.box.c
  have hz1 := h.box.lt
  have hz2 : gt < w.heap.size := Nat.lt_trans h.lt hz1
  have hlen := h.len
  have hcp := h.cap
  · have hm := ok.more hi (by rw [tks_get hi] at hk ⊢; exact ok.name i hi (.inl hk))
    obtain ⟨t0, t1, t2⟩ := h.toks (i + 1) hm
    rw [← tks_get hm] at t1
    have hkk : (((tks T i).k : Int) == 1) = true := by simp; omega
    have hsm : ∀ c ∈ (tks T (i + 1)).t, c < 256 := by rw [tks_get hm]; exact ok.small (i + 1) hm
    obtain ⟨b, hb⟩ : ∃ b, b = decide ((tks T (i + 1)).t = [40]) := ⟨_, rfl⟩
    have e1 : ((str (tks T (i + 1)).t).toList == [40]) = b := by rw [key_lit hsm, hb]; rfl
    have HU : Hid (callsB (tks T) i = b) := hid (by unfold callsB; rw [decide_eq_true hk, Bool.true_and, hb])
    have hi1 : (i : Int) + 1 < (T.length : Int) := by omega
    have hi0 : (0 : Int) ≤ (i : Int) + 1 := by omega
    have hit : ((i : Int) + 1).toNat = i + 1 := by omega
    have hkk2 : decide ((tks T i).k = 1) = true := decide_eq_true hk
    have hkk3 : decide (((tks T i).k : Int) = 1) = true := decide_eq_true (by omega)
    have hi2 : (i : Int) + 1 ≤ 8200 := by omega
    have ht1 : w.cell? ⟨gt, (i + 1) * 3 + 1, none⟩ = some (.string (str (tks T (i + 1)).t)) := t1
    have hn1 : (T.length : Int) ≤ 8200 := by omega
    have hwr : IntKind.i64.wrap ((i : Int) + 1) = (i : Int) + 1 := by rw [IntKind.wrap_i64]; omega
    have HN1 : Hid (∀ W, RS W gR gt cap T i d → Calls Tryd.prog 19 #[.pointer (some ⟨gR, 0, none⟩)] W fun e w' => e = .returned (.agg #[.int .i64 1, .string (str (tks T i).t), .int .i64 ((tks T i).p : Int)]) ∧ Below W.heap.size W w') := hid fun W hh => by have := HN.out W hh; rw [hk] at this; exact this
    clear h ok hb hsm t0 t1 t2 hk hi hkk hkk2 hkk3 HN
    generalize str (tks T (i + 1)).t = s at *
    go_enter Tryd.func52, Tryd.ntmps52
    have HL := hid (show ∀ W, Below w.heap.size w W → W.cell? ⟨gR, 0, none⟩ = some (.slice (some ⟨gt, 0, none⟩) T.length cap) ∧ W.cell? ⟨gR, 1, none⟩ = some (.int .i64 (i : Int)) ∧ W.cell? ⟨gt, (i + 1) * 3 + 1, none⟩ = some (.string s) from fun W hb => ⟨(hb.cell (p := ⟨gR, 0, none⟩) hz1).trans c0, (hb.cell (p := ⟨gR, 1, none⟩) hz1).trans c1, (hb.cell (p := ⟨gt, _, none⟩) hz2).trans ht1⟩)
    cases b
    all_goals
      go_wp2_with fail
      have hbw : Below w.heap.size w w.drew := (Below.refl _ _).drew
      go_region_held3 (fun W' => W'.cell? ⟨gR, 0, none⟩ = some (.slice (some ⟨gt, 0, none⟩) T.length cap) ∧ W'.cell? ⟨gR, 1, none⟩ = some (.int .i64 (i : Int)) ∧ W'.cell? ⟨gt, (i + 1) * 3 + 1, none⟩ = some (.string s)) (exact HL.out _ hbw) (first
        | (go_at_call 19; refine (HN1.out _ HS.out.drew).mono ?_; rintro e w1 ⟨rfl, hb1⟩; have hbn := below_call hbw hb1 hbw.size; clear hbw hb1; have hbw := hbn; clear hbn))
      go_wp2
      go_ret
      rw [HU.out]
      exact ⟨rfl, hbw⟩
end
end Go.Proofs.YtjofhaakkleecaaDoor
