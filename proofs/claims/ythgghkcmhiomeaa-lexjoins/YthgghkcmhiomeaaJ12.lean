/-
  Walks: are two rows of tokens one?
-/
import Derived.Test.YthgghkcmhiomeaaJ8
namespace Go.Proofs.Ythgghkcmhiomeaa
open Go.RowKit Lx
set_option linter.unusedSimpArgs false
set_option linter.unusedVariables false
set_option maxRecDepth 100000

/-- A slice that reads as tokens. -/
def RdT (w : World) (v : Value) (L : List Tk) : Prop := ∃ ao cap, v = .slice ao L.length cap ∧ L.length ≤ cap ∧ cap ≤ maxLen ∧ (L.length = 0 ∨ ∃ g, ao = some ⟨g, 0, none⟩ ∧ g < w.heap.size ∧ ∀ j (hj : j < L.length), At3 w g (j * 3) L[j])
theorem OwnT.rd {w : World} {base : Nat} {v : Value} {L : List Tk} (h : OwnT w base v L) : RdT w v L := by
  obtain ⟨ao, cap, h1, h2, h3, h4⟩ := h.shape
  refine ⟨ao, cap, h1, h2, h3, ?_⟩
  rcases h4 with h4 | ⟨g, h5, -, h6, h7⟩
  · exact .inl h4
  · exact .inr ⟨g, h5, h6, h7⟩
theorem At3.below {w w' : World} {g o : Nat} {t : Tk} (h : At3 w g o t) (hg : g < w.heap.size) (hb : Below w.heap.size w w') : At3 w' g o t :=
  ⟨(hb.cell (p := ⟨g, o, none⟩) hg).trans h.1, (hb.cell (p := ⟨g, o + 1, none⟩) hg).trans h.2.1, (hb.cell (p := ⟨g, o + 2, none⟩) hg).trans h.2.2⟩
theorem RdT.below {w w' : World} {v : Value} {L : List Tk} (h : RdT w v L) (hb : Below w.heap.size w w') : RdT w' v L := by
  obtain ⟨ao, cap, h1, h2, h3, h4⟩ := h
  refine ⟨ao, cap, h1, h2, h3, ?_⟩
  rcases h4 with h4 | ⟨g, h5, h6, h7⟩
  · exact .inl h4
  · exact .inr ⟨g, h5, Nat.lt_of_lt_of_le h6 hb.size, fun j hj => (h7 j hj).below h6 hb⟩

set_option maxHeartbeats 1600000 in
theorem same_any (w : World) (u v : Value) (L : List Tk) (hu : RdT w u L) (hv : RdT w v L) : Calls Try.prog 10 #[u, v] w fun e w' => e = .returned (.bool true) ∧ Below w.heap.size w w' := by
  obtain ⟨ao, ca, rfl, a1, a2, a3⟩ := hu
  obtain ⟨bo, cb, rfl, b1, b2, b3⟩ := hv
  unfold maxLen at a2 b2
  by_cases h0 : L.length = 0
  · have HA := hid a3
    have HB := hid b3
    rw [h0] at a1 b1 ⊢
    clear a3 b3 h0
    go_enter Try.func10, Try.ntmps10
    go_wp2
    go_loop [5] (fun iv => iv = .int .i64 0) (fun _ => 0)
    case atStart => rfl
    case round =>
      subst hrel
      go_wp2
      go_ret
      exact ⟨rfl, Below.refl _ _⟩
  · obtain ⟨g, rfl, hg, hA⟩ := a3.resolve_left h0
    obtain ⟨g2, rfl, hg2, hB⟩ := b3.resolve_left h0
    obtain ⟨n, hn⟩ : ∃ n, n = L.length := ⟨_, rfl⟩
    rw [← hn] at a1 b1 ⊢
    have HN := hid hn
    have HA := hid hA
    have HB := hid hB
    clear a3 b3 h0 hA hB hn
    go_enter Try.func10, Try.ntmps10
    go_wp2
    go_loopw [5] (fun iv wr => ∃ i : Nat, i ≤ n ∧ iv = .int .i64 (i : Int) ∧ Below w.heap.size w wr) (fun iv wr => n - (intOf iv).toNat)
    case atStart => exact ⟨0, Nat.zero_le _, rfl, Below.refl _ _⟩
    case round =>
      obtain ⟨i, hi, rfl, hb⟩ := hrel
      by_cases hlt : i < n
      · obtain ⟨p0, p1, p2⟩ := (HA.out i (by have := HN.out; omega)).below hg hb
        obtain ⟨q0, q1, q2⟩ := (HB.out i (by have := HN.out; omega)).below hg2 hb
        generalize L[i]'(by have := HN.out; omega) = t at *
        have hii : (i : Int) < (n : Int) := by omega
        have hi0 : (0 : Int) ≤ (i : Int) := by omega
        go_wp2_with fail
        go_quiet (fail)
        go_wp2_with fail
        exact ⟨⟨i + 1, by omega, by go_num, below_drewN hb nq⟩, by simp [intOf]; omega⟩
      · have hie : i = n := by omega
        subst hie
        go_wp2
        go_ret
        exact ⟨rfl, hb⟩

end Go.Proofs.Ythgghkcmhiomeaa
