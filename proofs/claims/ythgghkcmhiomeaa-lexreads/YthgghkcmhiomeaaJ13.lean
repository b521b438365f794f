/-
  Walks: the law LexReads.
-/
import Derived.Test.YthgghkcmhiomeaaJ11
import Derived.Test.YthgghkcmhiomeaaJ12
namespace Go.Proofs.Ythgghkcmhiomeaa
open Go.RowKit Lx
set_option linter.unusedSimpArgs false
set_option linter.unusedVariables false
set_option maxRecDepth 100000

set_option maxHeartbeats 3200000 in
theorem lexReads_any (w : World) (s : ByteArray) (hs : s.size ≤ maxLen) : Calls Try.prog 3 #[.string s] w fun e w' => e = .returned (.bool true) ∧ Below w.heap.size w w' := by
  unfold maxLen at hs
  have hs2 : s.size ≤ 9223372036854775807 := by omega
  by_cases h1 : 400 < s.size ∧ s.size ≤ 8192
  · obtain ⟨h2, h3⟩ := h1
    have h2i : (400 : Int) < (s.size : Int) := by omega
    have h3i : (s.size : Int) ≤ 8192 := by omega
    go_enter Try.func3, Try.ntmps3
    go_wp2_with (go_at_call 7; refine (awake_any _).mono ?_; rintro e w1 ⟨rfl, hb⟩)
    go_ret
    exact ⟨rfl, hb⟩
  · have h4 : ¬ (400 : Int) < (s.size : Int) ∨ (((400 : Int) < (s.size : Int)) ∧ ¬ (s.size : Int) ≤ 8192) := by omega
    clear h1
    rcases h4 with h4 | ⟨h4, h5⟩
    all_goals
      go_enter Try.func3, Try.ntmps3
      go_wp2_with fail
      refine (lex_any _ s hs2).mono ?_
      rintro e w1 ⟨u, rfl, hO1, hb1⟩
      have HR1 := hO1.rd
      clear hO1
      go_wp2_with fail
      refine (rlex_any _ s hs2).mono ?_
      rintro e w2 ⟨v, rfl, hO2, hb2⟩
      have HR2 := hO2.rd
      replace HR1 := HR1.below hb2
      have hB2 := below_call hb1 hb2 hb1.size
      have hcc : ((lexS (lst s)).2.1 == (lexS (lst s)).2.1) = true := by simp
      have hpp : ((lexS (lst s)).2.2 == (lexS (lst s)).2.2) = true := by simp
      clear hO2 hb1 hb2
      go_wp2_with (first | (go_at_call 10; refine (same_any _ _ _ _ HR1 HR2).mono ?_; rintro e w3 ⟨rfl, hb3⟩) | (go_at_call 11; refine (num_any _ _).mono ?_; rintro e w4 ⟨rfl, hw4⟩; subst w4) | (go_at_call 7; refine (awake_any _).mono ?_; rintro e w5 ⟨rfl, hb5⟩))
      go_ret
      exact ⟨rfl, below_call (below_call hB2 hb3 hB2.size) hb5 (below_call hB2 hb3 hB2.size).size⟩

end Go.Proofs.Ythgghkcmhiomeaa
