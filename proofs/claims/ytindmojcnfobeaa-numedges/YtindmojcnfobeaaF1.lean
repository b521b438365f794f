/-
  Walks: the law NumForms.
-/
import Derived.Test.YtindmojcnfobeaaW10
namespace Go.Proofs.Ytindmojcnfobeaa
open Go.RowKit Lm
set_option linter.unusedSimpArgs false
set_option linter.unusedVariables false

theorem toV_form (z : Int) : ∃ p b, toV z = .tuple #[.int .i64 p, .bool b] := by
  unfold toV
  split
  · exact ⟨_, _, rfl⟩
  · exact ⟨_, _, rfl⟩

/-- The lengths, as Great reads them off a row of numbers. -/
theorem great_one (W : World) (g : Nat) (hg : W.heap.size = g) (neg : Bool) (ao : Option Addr) (k cap : Nat) (hk : k ≤ 9223372036854775807) :
    Calls Try.prog 15 #[.slice (some ⟨g, 0, none⟩) 1 1] (W.alloc (.cells #[.bool neg, .slice ao k cap] 24)) fun e w' => e = .returned (.bool (greatB [k])) ∧ w' = W.alloc (.cells #[.bool neg, .slice ao k cap] 24) := by
  subst hg
  refine great_any _ W.heap.size 1 [k] (by simp) (by intro i hi; simp at hi; subst hi; simpa using hk) ?_
  intro i hi
  simp at hi
  subst hi
  exact ⟨ao, cap, (Box.new W _ _ _ rfl).c1⟩

/-- A box that stands behind a call. -/
theorem box_next {w w' : World} {b : Nat} {x y : Value} (h : Box w b x y) (hb : Below w.heap.size w w') : Box w' b x y ∧ w'.cell? ⟨b, 0, none⟩ = some x ∧ w'.cell? ⟨b, 1, none⟩ = some y := ⟨h.keep hb, (h.keep hb).c0, (h.keep hb).c1⟩

set_option maxHeartbeats 3200000 in
theorem numForms_any (w : World) (neg : Bool) (ao : Option Addr) (cap : Nat) (l : List Nat) (z : Int) (h : SlAt w ao cap l) (hz1 : -9223372036854775808 ≤ z) (hz2 : z ≤ 9223372036854775807) :
    Calls Try.prog 3 #[.agg #[.bool neg, .slice ao l.length cap], .int .i64 z] w fun e w' => e = .returned (.bool true) ∧ Below w.heap.size w w' := by
  have hcm := h.2.2.1
  have hlc := h.2.1
  unfold maxLen at hcm
  have hk : l.length ≤ 9223372036854775807 := by omega
  have hA : Arg w (.agg #[.bool neg, .slice ao l.length cap]) l.length (mean neg l) := ⟨neg, _, l, rfl, ⟨ao, cap, rfl, h⟩, Nat.le_refl _, rfl⟩
  obtain ⟨p, q, hpq⟩ := toV_form (mean neg l)
  have HPQ := hid hpq
  have HA := hid hA
  clear hpq hA hcm hlc
  go_enter Try.func3, Try.ntmps3
  go_wp2_with fail
  refine (great_one _ _ (asize _ _) neg ao l.length cap hk).mono ?_
  rintro e w0 ⟨rfl, rfl⟩
  cases hG : greatB [l.length]
  · have HG := hid hG
    have hl40 : l.length ≤ 40 := by simp [greatB] at hG; omega
    clear hG
    have hX1 : Box ((w.alloc (.cells #[.bool neg, .slice ao l.length cap] 24)).alloc (.cells #[.bool neg, .slice ao l.length cap] 24)) w.heap.size (.bool neg) (.slice ao l.length cap) := (Box.new w _ _ _ rfl).alloc _
    have hW1 : Below w.heap.size w ((w.alloc (.cells #[.bool neg, .slice ao l.length cap] 24)).alloc (.cells #[.bool neg, .slice ao l.length cap] 24)) := (by repeat (first | exact Below.refl _ _ | refine Below.alloc ?_ ?_ _ | refine Below.setCell ?_ ?_ _ | refine Below.drew ?_ | refine below_drewN ?_ _ | (· simp) | omega | (· simp; omega) | exact Below.size (by assumption) | assumption | refine below_call ?_ (by assumption) ?_))
    generalize (w.alloc (.cells #[.bool neg, .slice ao l.length cap] 24)).alloc (.cells #[.bool neg, .slice ao l.length cap] 24) = v0 at *
    have x00 := hX1.c0
    have x01 := hX1.c1
    go_wp2_with fail
    refine (to_num _ _ l.length (mean neg l) (by exact HA.out.below hW1)).mono ?_
    rintro e v1 ⟨rfl, hb1⟩
    rw [HPQ.out]
    obtain ⟨hX2, x10, x11⟩ := box_next hX1 hb1
    have hW2 := below_call hW1 hb1 hW1.size
    clear x00 x01 hb1 hX1 hW1
    go_wp2_with fail
    refine (rto_num _ _ l.length (mean neg l) (by exact HA.out.below hW2)).mono ?_
    rintro e v2 ⟨rfl, hb2⟩
    rw [HPQ.out]
    obtain ⟨hX3, x20, x21⟩ := box_next hX2 hb2
    have hW3 := below_call hW2 hb2 hW2.size
    clear x10 x11 hb2 hX2 hW2
    go_wp2_with fail
    refine (of_num _ z hz1 hz2).mono ?_
    rintro e v3 ⟨nn, an, kn, cn, rfl, hI3, hb3⟩
    obtain ⟨hX4, x30, x31⟩ := box_next hX3 hb3
    have hW4 := below_call hW3 hb3 hW3.size
    clear x20 x21 hb3 hX3 hW3
    go_wp2_with fail
    refine (to_num _ _ 2 z (by exact hI3.arg)).mono ?_
    rintro e v4 ⟨rfl, hb4⟩
    rw [toV_yes hz1 hz2]
    obtain ⟨hX5, x40, x41⟩ := box_next hX4 hb4
    have hW5 := below_call hW4 hb4 hW4.size
    clear x30 x31 hb4 hX4 hW4 hI3
    go_wp2_with fail
    go_outline
    go_region_held3 (fun w' => (w'.cell? ⟨w.heap.size, 0, none⟩ = some (.bool neg) ∧ w'.cell? ⟨w.heap.size, 1, none⟩ = some (.slice ao l.length cap))) (refine ⟨?_, ?_⟩ <;> repeat (first | with_reducible exact x100 | with_reducible exact x101 | with_reducible exact x90 | with_reducible exact x91 | with_reducible exact x80 | with_reducible exact x81 | with_reducible exact x70 | with_reducible exact x71 | with_reducible exact x60 | with_reducible exact x61 | with_reducible exact x50 | with_reducible exact x51 | with_reducible exact x40 | with_reducible exact x41 | with_reducible refine cell_drew ?_)) (first
      | (go_at_call 20; go_must (refine (may_any _ neg ao cap l (by exact (h.below hW5).drew)).mono ?_); rintro e v5 ⟨rfl, hb5⟩; obtain ⟨hX6, x50, x51⟩ := box_next hX5.drew hb5; have hW6 := below_call hW5.drew hb5 hW5.size)
      | (go_at_call 21; go_must (refine (rmay_any _ neg ao cap l (by exact h.below hW6)).mono ?_); rintro e v6 ⟨rfl, hb6⟩; obtain ⟨hX7, x60, x61⟩ := box_next hX6 hb6; have hW7 := below_call hW6 hb6 hW6.size)
      | (go_at_call 19; go_must (refine (of_num _ z hz1 hz2).mono ?_); rintro e v7 ⟨n7, a7, k7, c7, rfl, hI7, hb7⟩; obtain ⟨hX8, x70, x71⟩ := box_next hX7 hb7; have hW8 := below_call hW7 hb7 hW7.size)
      | (go_at_call 23; go_must (refine (rof_num _ z hz1 hz2).mono ?_); rintro e v8 ⟨n8, a8, k8, c8, rfl, hI8, hb8⟩; obtain ⟨hX9, x80, x81⟩ := box_next hX8 hb8; have hW9 := below_call hW8 hb8 hW8.size; have hI7' := hI7.below hb8)
      | (go_at_call 22; go_must (refine (same_num _ _ _ 2 2 _ _ z z hI7' hI8).mono ?_); rintro e v9 ⟨rfl, hb9⟩; obtain ⟨hX10, x90, x91⟩ := box_next hX9 hb9; have hW10 := below_call hW9 hb9 hW9.size; rw [decide_eq_true (rfl : z = z)])
      | (go_at_call 16; go_must (refine (awake_any _).mono ?_); rintro e v10 ⟨rfl, hb10⟩; obtain ⟨hX11, x100, x101⟩ := box_next hX10 hb10; have hW11 := below_call hW10 hb10 hW10.size))
    go_wp2
    go_ret
    exact ⟨rfl, hW11⟩
  · go_wp2_with fail
    refine (awake_any _).mono ?_
    rintro e w2 ⟨rfl, hb2⟩
    go_wp2
    go_ret
    exact ⟨rfl, (by repeat (first | exact Below.refl _ _ | refine Below.alloc ?_ ?_ _ | refine Below.setCell ?_ ?_ _ | refine Below.drew ?_ | refine below_drewN ?_ _ | (· simp) | omega | (· simp; omega) | exact Below.size (by assumption) | assumption | refine below_call ?_ (by assumption) ?_))⟩

end Go.Proofs.Ytindmojcnfobeaa
