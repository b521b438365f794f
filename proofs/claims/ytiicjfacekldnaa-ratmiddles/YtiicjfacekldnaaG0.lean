/-
  How great one, two, three quotients are; what the laws of quotients rest on.
-/
import Derived.Test.YtiicjfacekldnaaW44
namespace Go.Proofs.Ytiicjfacekldnaa
open Go.RowKit Lm
set_option linter.unusedSimpArgs false
set_option linter.unusedVariables false
set_option maxRecDepth 100000

theorem great_r1 (W : World) (g : Nat) (n1 n2 : Bool) (a1 a2 : Option Addr) (k1 c1 k2 c2 : Nat) (hg : W.heap.size = g) (h1 : k1 ≤ 9223372036854775807) (h2 : k2 ≤ 9223372036854775807) :
    Calls Try.prog 34 #[.slice (some ⟨g, 0, none⟩) 1 1] (W.alloc (.cells #[.bool n1, .slice a1 k1 c1, .bool n2, .slice a2 k2 c2] 43)) fun e w' => e = .returned (.bool (greatR [(k1, k2)])) ∧ w' = W.alloc (.cells #[.bool n1, .slice a1 k1 c1, .bool n2, .slice a2 k2 c2] 43) := by
  subst hg
  have hh : (W.alloc (.cells #[.bool n1, .slice a1 k1 c1, .bool n2, .slice a2 k2 c2] 43)).heap[W.heap.size]? = some (.cells #[.bool n1, .slice a1 k1 c1, .bool n2, .slice a2 k2 c2] 43 (0, 0)) := heap_alloc_new W _
  refine great2_any _ W.heap.size 1 [(k1, k2)] (by simp) (fun i hi => ?_) (fun i hi => ?_)
  · simp at hi
    subst hi
    exact ⟨h1, h2⟩
  · simp at hi
    subst hi
    exact ⟨a1, c1, a2, c2, by rw [cell_of_row _ _ _ _ _ _ hh]; rfl, by rw [cell_of_row _ _ _ _ _ _ hh]; rfl⟩
theorem great_r2 (W : World) (g : Nat) (n1 n2 n3 n4 : Bool) (a1 a2 a3 a4 : Option Addr) (k1 c1 k2 c2 k3 c3 k4 c4 : Nat) (hg : W.heap.size = g) (h1 : k1 ≤ 9223372036854775807) (h2 : k2 ≤ 9223372036854775807) (h3 : k3 ≤ 9223372036854775807) (h4 : k4 ≤ 9223372036854775807) :
    Calls Try.prog 34 #[.slice (some ⟨g, 0, none⟩) 2 2] (W.alloc (.cells #[.bool n1, .slice a1 k1 c1, .bool n2, .slice a2 k2 c2, .bool n3, .slice a3 k3 c3, .bool n4, .slice a4 k4 c4] 43)) fun e w' => e = .returned (.bool (greatR [(k1, k2), (k3, k4)])) ∧ w' = W.alloc (.cells #[.bool n1, .slice a1 k1 c1, .bool n2, .slice a2 k2 c2, .bool n3, .slice a3 k3 c3, .bool n4, .slice a4 k4 c4] 43) := by
  subst hg
  have hh : (W.alloc (.cells #[.bool n1, .slice a1 k1 c1, .bool n2, .slice a2 k2 c2, .bool n3, .slice a3 k3 c3, .bool n4, .slice a4 k4 c4] 43)).heap[W.heap.size]? = some (.cells #[.bool n1, .slice a1 k1 c1, .bool n2, .slice a2 k2 c2, .bool n3, .slice a3 k3 c3, .bool n4, .slice a4 k4 c4] 43 (0, 0)) := heap_alloc_new W _
  refine great2_any _ W.heap.size 2 [(k1, k2), (k3, k4)] (by simp) (fun i hi => ?_) (fun i hi => ?_)
  · simp at hi
    rcases (show i = 0 ∨ i = 1 by omega) with rfl | rfl
    · exact ⟨h1, h2⟩
    · exact ⟨h3, h4⟩
  · simp at hi
    rcases (show i = 0 ∨ i = 1 by omega) with rfl | rfl
    · exact ⟨a1, c1, a2, c2, by rw [cell_of_row _ _ _ _ _ _ hh]; rfl, by rw [cell_of_row _ _ _ _ _ _ hh]; rfl⟩
    · exact ⟨a3, c3, a4, c4, by rw [cell_of_row _ _ _ _ _ _ hh]; rfl, by rw [cell_of_row _ _ _ _ _ _ hh]; rfl⟩
theorem great_r3 (W : World) (g : Nat) (n1 n2 n3 n4 n5 n6 : Bool) (a1 a2 a3 a4 a5 a6 : Option Addr) (k1 c1 k2 c2 k3 c3 k4 c4 k5 c5 k6 c6 : Nat) (hg : W.heap.size = g) (h1 : k1 ≤ 9223372036854775807) (h2 : k2 ≤ 9223372036854775807) (h3 : k3 ≤ 9223372036854775807) (h4 : k4 ≤ 9223372036854775807) (h5 : k5 ≤ 9223372036854775807) (h6 : k6 ≤ 9223372036854775807) :
    Calls Try.prog 34 #[.slice (some ⟨g, 0, none⟩) 3 3] (W.alloc (.cells #[.bool n1, .slice a1 k1 c1, .bool n2, .slice a2 k2 c2, .bool n3, .slice a3 k3 c3, .bool n4, .slice a4 k4 c4, .bool n5, .slice a5 k5 c5, .bool n6, .slice a6 k6 c6] 43)) fun e w' => e = .returned (.bool (greatR [(k1, k2), (k3, k4), (k5, k6)])) ∧ w' = W.alloc (.cells #[.bool n1, .slice a1 k1 c1, .bool n2, .slice a2 k2 c2, .bool n3, .slice a3 k3 c3, .bool n4, .slice a4 k4 c4, .bool n5, .slice a5 k5 c5, .bool n6, .slice a6 k6 c6] 43) := by
  subst hg
  have hh : (W.alloc (.cells #[.bool n1, .slice a1 k1 c1, .bool n2, .slice a2 k2 c2, .bool n3, .slice a3 k3 c3, .bool n4, .slice a4 k4 c4, .bool n5, .slice a5 k5 c5, .bool n6, .slice a6 k6 c6] 43)).heap[W.heap.size]? = some (.cells #[.bool n1, .slice a1 k1 c1, .bool n2, .slice a2 k2 c2, .bool n3, .slice a3 k3 c3, .bool n4, .slice a4 k4 c4, .bool n5, .slice a5 k5 c5, .bool n6, .slice a6 k6 c6] 43 (0, 0)) := heap_alloc_new W _
  refine great2_any _ W.heap.size 3 [(k1, k2), (k3, k4), (k5, k6)] (by simp) (fun i hi => ?_) (fun i hi => ?_)
  · simp at hi
    rcases (show i = 0 ∨ i = 1 ∨ i = 2 by omega) with rfl | rfl | rfl
    · exact ⟨h1, h2⟩
    · exact ⟨h3, h4⟩
    · exact ⟨h5, h6⟩
  · simp at hi
    rcases (show i = 0 ∨ i = 1 ∨ i = 2 by omega) with rfl | rfl | rfl
    · exact ⟨a1, c1, a2, c2, by rw [cell_of_row _ _ _ _ _ _ hh]; rfl, by rw [cell_of_row _ _ _ _ _ _ hh]; rfl⟩
    · exact ⟨a3, c3, a4, c4, by rw [cell_of_row _ _ _ _ _ _ hh]; rfl, by rw [cell_of_row _ _ _ _ _ _ hh]; rfl⟩
    · exact ⟨a5, c5, a6, c6, by rw [cell_of_row _ _ _ _ _ _ hh]; rfl, by rw [cell_of_row _ _ _ _ _ _ hh]; rfl⟩

theorem rarg_mk {W : World} {n1 n2 : Bool} {a1 a2 : Option Addr} {c1 c2 : Nat} {l1 l2 : List Nat} (h1 : SlAt W a1 c1 l1) (h2 : SlAt W a2 c2 l2) : ∀ n, l1.length ≤ n → l2.length ≤ n → RArg W (.agg #[.bool n1, .slice a1 l1.length c1, .bool n2, .slice a2 l2.length c2]) n (ratMean n1 l1 n2 l2) :=
  fun n k1 k2 => ⟨n1, _, l1, n2, _, l2, rfl, ⟨a1, c1, rfl, h1⟩, ⟨a2, c2, rfl, h2⟩, k1, k2, rfl⟩
theorem slat_len {W : World} {a : Option Addr} {c : Nat} {l : List Nat} (h : SlAt W a c l) : l.length ≤ 9223372036854775807 := by
  have h1 := h.2.1
  have h2 := h.2.2.1
  unfold maxLen at h2
  omega
theorem great_small {L : List (Nat × Nat)} (h : greatR L = false) : ∀ p ∈ L, p.1 ≤ 6 ∧ p.2 ≤ 6 := by
  intro p hp
  unfold greatR at h
  rw [List.any_eq_false] at h
  have := h p hp
  simp at this
  omega

/-- The order, as Cmp tells it. -/
theorem cmpR_lt {r t : Rat} (h : r < t) : cmpR r t = -1 := by unfold cmpR; rw [if_pos h]
theorem cmpR_gt {r t : Rat} (h : t < r) : cmpR r t = 1 := by
  have h1 : ¬ r < t := fun h2 => by grind
  unfold cmpR; rw [if_neg h1, if_pos h]
theorem cmpR_eq {r t : Rat} (h : r = t) : cmpR r t = 0 := by
  subst h
  have h1 : ¬ r < r := by grind
  unfold cmpR; rw [if_neg h1, if_neg h1]
theorem cmpR_or (r t : Rat) : (r < t ∧ cmpR r t = -1) ∨ (r = t ∧ cmpR r t = 0) ∨ (t < r ∧ cmpR r t = 1) := by
  by_cases h1 : r < t
  · exact .inl ⟨h1, cmpR_lt h1⟩
  · by_cases h2 : t < r
    · exact .inr (.inr ⟨h2, cmpR_gt h2⟩)
    · have h3 : r = t := by grind
      exact .inr (.inl ⟨h3, cmpR_eq h3⟩)
theorem cmpR_le {r t : Rat} (h : r ≤ t) : cmpR r t ≤ 0 := by
  rcases cmpR_or r t with ⟨_, h2⟩ | ⟨_, h2⟩ | ⟨h1, h2⟩
  · omega
  · omega
  · grind

end Go.Proofs.Ytiicjfacekldnaa
