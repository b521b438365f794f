/-
  Walks: the document's own Sub, Cmp.
-/
import Derived.Test.YtiicjfacekldnaaR6
namespace Go.Proofs.Ytiicjfacekldnaa
open Go.RowKit Lm
set_option linter.unusedSimpArgs false
set_option linter.unusedVariables false
set_option maxRecDepth 100000

set_option maxHeartbeats 3200000 in
theorem rsub_num (w : World) (u v : Value) (n m : Nat) (x y : Int) (hx : Arg w u n x) (hy : Arg w v m y) (hn : n ≤ 400000) (hm : m ≤ 400000) :
    Calls Try.prog 97 #[u, v] w (Told w.heap.size (n + m + 1) (x - y) w) := by
  have HX := hid hx
  have HY := hid hy
  have hx' := hx
  have hy' := hy
  obtain ⟨n1, s1, l1, rfl, ⟨p1, q1, rfl, -⟩, -⟩ := hx
  obtain ⟨n2, s2, l2, rfl, ⟨p2, q2, rfl, -⟩, -⟩ := hy
  clear hx' hy'
  generalize l1.length = L1 at *
  generalize l2.length = L2 at *
  go_enter Try.func97, Try.ntmps97
  go_wp2
  have hW3 : Below w.heap.size w (Laid3 w n1 (.slice p1 L1 q1) n2 (.slice p2 L2 q2)) := (laid3 w n1 (.slice p1 L1 q1) n2 (.slice p2 L2 q2)).2.2.2.2
  have B1 := (laid3 w n1 (.slice p1 L1 q1) n2 (.slice p2 L2 q2)).2.1
  have B2 := (laid3 w n1 (.slice p1 L1 q1) n2 (.slice p2 L2 q2)).2.2.1
  have B3 := (laid3 w n1 (.slice p1 L1 q1) n2 (.slice p2 L2 q2)).2.2.2.1 (w.heap.size + 1 + 1) (by omega) (by omega)
  unfold Laid3 at hW3 B1 B2 B3
  generalize ((w.alloc (.cells #[.bool n1, .slice p1 L1 q1] 24)).alloc (.cells #[.bool n2, .slice p2 L2 q2] 24)).alloc (.cells #[.bool false, .slice none 0 0] 24) = v0 at *
  have bl := B3.lt
  have HB1 := hid B1
  have HB2 := hid B2
  have HB3 := hid B3
  have a0 := B1.c0
  have a1 := B1.c1
  have b0 := B2.c0
  have b1 := B2.c1
  clear B1 B2 B3
  go_region_held3 (fun w' => (w'.cell? ⟨w.heap.size, 0, none⟩ = some (.bool n1) ∧ w'.cell? ⟨w.heap.size, 1, none⟩ = some (.slice p1 L1 q1) ∧ w'.cell? ⟨w.heap.size + 1, 0, none⟩ = some (.bool n2) ∧ w'.cell? ⟨w.heap.size + 1, 1, none⟩ = some (.slice p2 L2 q2))) (refine ⟨?_, ?_, ?_, ?_⟩ <;> repeat (first | with_reducible exact a40 | with_reducible exact a41 | with_reducible exact b40 | with_reducible exact b41 | with_reducible exact a30 | with_reducible exact a31 | with_reducible exact b30 | with_reducible exact b31 | with_reducible refine cell_far ?_ ?_ | with_reducible refine cell_drew ?_ | with_reducible exact a0 | with_reducible exact a1 | with_reducible exact b0 | with_reducible exact b1 | (· simp) | (· simp; omega))) (first
    | (go_at_call 85; go_must (refine (rneg_num _ _ m y (by exact HY.out.below hW3.drew) (by omega)).mono ?_); rintro e w3 ⟨ng, ag, kg, cg, rfl, hI3, hb3⟩; have HI3 := hid hI3; have bb1 := HB1.out.drew.keep hb3; have bb2 := HB2.out.drew.keep hb3; have HBX3 := hid (HB3.out.drew.keep hb3); have HB13 := hid bb1; have HB23 := hid bb2; have a30 := bb1.c0; have a31 := bb1.c1; have b30 := bb2.c0; have b31 := bb2.c1; have hz3 := hb3.size; simp only [dsize] at hz3; have hW33 := below_call hW3.drew hb3 (by rw [dsize]; exact hW3.size); clear bb1 bb2 hI3)
    | (go_at_call 93; go_must (refine (radd_num _ _ _ n m x (-y) (by exact HX.out.below hW33) (by exact HI3.out.arg) hn hm).mono ?_); rintro e w4 ⟨nr, ar, kr, cr, rfl, hI, hb4⟩; have HI := hid hI; have bb1 := HB13.out.keep hb4; have bb2 := HB23.out.keep hb4; have bb3 := HBX3.out.keep hb4; have a40 := bb1.c0; have a41 := bb1.c1; have b40 := bb2.c0; have b41 := bb2.c1; have x0 := bb3.c0; have x1 := bb3.c1; have xf := bb3.f; clear bb1 bb2 bb3 hI))
  have HZ : Hid (x - y = x + -y) := hid (by omega)
  have hW4 : Below w.heap.size w w4 := below_call hW33 hb4 hW33.size
  clear hb3 hb4 a30 a31 b30 b31 a40 a41 b40 b41 a0 a1 b0 b1
  go_wp2
  refine bodyPost_ret (v := .agg #[.bool nr, .slice ar kr cr]) ?_ rfl ⟨nr, ar, kr, cr, rfl, ?_, (by repeat (first | exact Below.refl _ _ | refine Below.alloc ?_ ?_ _ | refine Below.setCell ?_ ?_ _ | refine Below.drew ?_ | refine below_drewN ?_ _ | (· simp) | omega | (· simp; omega) | exact Below.size (by assumption) | assumption | refine below_call ?_ (by assumption) ?_))⟩
  · simp [results, Try.results97, go_sem, x0, x1]
  · rw [HZ.out]
    exact ((HI.out.setCell (by show w.heap.size + 1 + 1 < _; omega) _).setCell (by show w.heap.size + 1 + 1 < _; omega) _).mono (by omega) (by omega)

theorem is_sign {W : World} {lo n k cap : Nat} {neg : Bool} {ao : Option Addr} {z : Int} (h : Is W lo (.agg #[.bool neg, .slice ao k cap]) n z) : (k = 0 ↔ z = 0) ∧ (k ≠ 0 → (neg = true ↔ z < 0)) ∧ k ≤ n ∧ k ≤ 9223372036854775807 := by
  obtain ⟨neg', ao', cap', l, e, hs, _, hl, hm, rfl⟩ := h
  simp only [Value.agg.injEq, Array.mk.injEq, List.cons.injEq, Value.bool.injEq, Value.slice.injEq, and_true] at e
  obtain ⟨rfl, rfl, rfl, rfl⟩ := e
  have hcm := hs.2.2.1
  have hlc := hs.2.1
  unfold maxLen at hcm
  refine ⟨⟨fun h0 => ?_, fun h0 => ?_⟩, fun h0 => ?_, hl, by omega⟩
  · rw [List.eq_nil_of_length_eq_zero h0]; cases neg <;> simp [sgn, val]
  · have : val l = 0 := by have := sgn_abs neg (val l); omega
    rw [val_eq_zero (may_canon hm) this]; rfl
  · have h1 := canon_pos (may_canon hm) (by intro e; subst e; simp at h0)
    have h2 := pw_pos (l.length - 1)
    cases neg <;> simp [sgn] <;> omega

set_option maxHeartbeats 3200000 in
theorem rcmp_num (w : World) (u v : Value) (n m : Nat) (x y : Int) (hx : Arg w u n x) (hy : Arg w v m y) (hn : n ≤ 400000) (hm : m ≤ 400000) :
    Calls Try.prog 96 #[u, v] w fun e w' => e = .returned (.int .i64 (cmpI x y)) ∧ Below w.heap.size w w' := by
  have HX := hid hx
  have HY := hid hy
  obtain ⟨n1, s1, l1, rfl, ⟨p1, q1, rfl, -⟩, -⟩ := hx
  obtain ⟨n2, s2, l2, rfl, ⟨p2, q2, rfl, -⟩, -⟩ := hy
  generalize l1.length = L1 at *
  generalize l2.length = L2 at *
  go_enter Try.func96, Try.ntmps96
  go_wp2_with fail
  refine (rsub_num _ _ _ n m x y (by exact HX.out.below (by repeat (first | exact Below.refl _ _ | refine Below.alloc ?_ ?_ _ | refine Below.setCell ?_ ?_ _ | refine Below.drew ?_ | refine below_drewN ?_ _ | (· simp) | omega | (· simp; omega) | exact Below.size (by assumption) | assumption | refine below_call ?_ (by assumption) ?_))) (by exact HY.out.below (by repeat (first | exact Below.refl _ _ | refine Below.alloc ?_ ?_ _ | refine Below.setCell ?_ ?_ _ | refine Below.drew ?_ | refine below_drewN ?_ _ | (· simp) | omega | (· simp; omega) | exact Below.size (by assumption) | assumption | refine below_call ?_ (by assumption) ?_))) hn hm).mono ?_
  rintro e w3 ⟨nr, ar, kr, cr, rfl, hI, hb3⟩
  obtain ⟨s1, s2, s3, s4⟩ := is_sign hI
  have hW3 : Below w.heap.size w w3 := (by repeat (first | exact Below.refl _ _ | refine Below.alloc ?_ ?_ _ | refine Below.setCell ?_ ?_ _ | refine Below.drew ?_ | refine below_drewN ?_ _ | (· simp) | omega | (· simp; omega) | exact Below.size (by assumption) | assumption | refine below_call ?_ (by assumption) ?_))
  have hs := hW3.size
  clear hI hb3
  by_cases h0 : kr = 0
  · have HC : Hid (cmpI x y = 0) := hid (cmpI_eq (by have := s1.1 h0; omega))
    subst h0
    clear s1 s2
    go_wp2
    go_ret
    exact ⟨ret_int HC.out.symm, (by repeat (first | exact Below.refl _ _ | refine Below.alloc ?_ ?_ _ | refine Below.setCell ?_ ?_ _ | refine Below.drew ?_ | refine below_drewN ?_ _ | (· simp) | omega | (· simp; omega) | exact Below.size (by assumption) | assumption | refine below_call ?_ (by assumption) ?_))⟩
  · cases nr
    · have HC : Hid (cmpI x y = 1) := hid (cmpI_gt (by
        have h1 := (s2 h0)
        have h2 : ¬ x - y = 0 := fun e => h0 (s1.2 e)
        simp at h1
        omega))
      clear s1 s2
      go_wp2
      go_ret
      exact ⟨ret_int HC.out.symm, (by repeat (first | exact Below.refl _ _ | refine Below.alloc ?_ ?_ _ | refine Below.setCell ?_ ?_ _ | refine Below.drew ?_ | refine below_drewN ?_ _ | (· simp) | omega | (· simp; omega) | exact Below.size (by assumption) | assumption | refine below_call ?_ (by assumption) ?_))⟩
    · have HC : Hid (cmpI x y = -1) := hid (cmpI_lt (by
        have h1 := (s2 h0).1 rfl
        omega))
      clear s1 s2
      go_wp2
      go_ret
      exact ⟨ret_int HC.out.symm, (by repeat (first | exact Below.refl _ _ | refine Below.alloc ?_ ?_ _ | refine Below.setCell ?_ ?_ _ | refine Below.drew ?_ | refine below_drewN ?_ _ | (· simp) | omega | (· simp; omega) | exact Below.size (by assumption) | assumption | refine below_call ?_ (by assumption) ?_))⟩

end Go.Proofs.Ytiicjfacekldnaa
