/-
  Walks: Cmp, Neg.
-/
import Derived.Test.YtalblhcfkfockaaW16
namespace Go.Proofs.Ytalblhcfkfockaa
open Go.RowKit Lm
set_option linter.unusedSimpArgs false
set_option linter.unusedVariables false
set_option maxRecDepth 100000

theorem cmp_sgn (na nb : Bool) (A B : List Nat) (ha : mayB na A = true) (hb : mayB nb B = true) :
    cmpI (sgn na (val A)) (sgn nb (val B)) = if na = true ∧ nb = true then cmpI (val B : Int) (val A : Int) else if na = true then -1 else if nb = true then 1 else cmpI (val A : Int) (val B : Int) := by
  have pos : ∀ l : List Nat, mayB true l = true → 0 < val l := by
    intro l h
    by_cases h0 : l.length = 0
    · simp [mayB, h0] at h
    · have h1 := canon_pos (may_canon h) (by intro e; subst e; simp at h0)
      have h2 := pw_pos (l.length - 1)
      omega
  cases na <;> cases nb <;> simp [sgn]
  · have := pos B hb
    exact cmpI_gt (by omega)
  · have := pos A ha
    exact cmpI_lt (by omega)
  · unfold cmpI
    by_cases h1 : (val B : Int) < val A
    · rw [if_pos (by omega), if_pos h1]
    · by_cases h2 : (val A : Int) < val B
      · rw [if_neg (by omega), if_pos (by omega), if_neg h1, if_pos h2]
      · rw [if_neg (by omega), if_neg (by omega), if_neg h1, if_neg h2]

set_option maxHeartbeats 3200000 in
theorem cmp_num (w : World) (u v : Value) (n m : Nat) (x y : Int) (hx : Arg w u n x) (hy : Arg w v m y) :
    Calls Try.prog 45 #[u, v] w fun e w' => e = .returned (.int .i64 (cmpI x y)) ∧ Below w.heap.size w w' := by
  have HX := hid hx
  have HY := hid hy
  obtain ⟨n1, s1, l1, rfl, -⟩ := hx
  obtain ⟨n2, s2, l2, rfl, -⟩ := hy
  go_enter Try.func45, Try.ntmps45
  go_wp2
  go_cut [] (fun wc => ∃ neg1 ao1 cap1 l1 neg2 ao2 cap2 l2, Boxed2 w (w.heap.size + 2) n m x y wc neg1 ao1 cap1 l1 neg2 ao2 cap2 l2)
  case first =>
    go_region_with (first | (go_at_call_of 63 (Value.agg #[Value.bool n1, s1]); refine (counted_h w _ _ n x HX.out ?_).mono ?_; (exact (by repeat (first | exact Below.refl _ _ | refine Below.alloc ?_ ?_ _ | refine Below.setCell ?_ ?_ _ | refine Below.drew ?_ | refine below_drewN ?_ _ | (· simp) | omega | (· simp; omega) | exact Below.size (by assumption) | assumption | refine below_call ?_ (by assumption) ?_))); rintro e w1 ⟨neg1, ao1, cap1, k1, l1, rfl, HK1, HC1, hb1⟩; obtain ⟨hc1, hf1⟩ := bcell hb1; simp only [asize, dsize] at hc1 hf1) | (go_at_call_of 63 (Value.agg #[Value.bool n2, s2]); refine (counted_h w _ _ m y HY.out ?_).mono ?_; (exact (by repeat (first | exact Below.refl _ _ | refine Below.alloc ?_ ?_ _ | refine Below.setCell ?_ ?_ _ | refine Below.drew ?_ | refine below_drewN ?_ _ | (· simp) | omega | (· simp; omega) | exact Below.size (by assumption) | assumption | refine below_call ?_ (by assumption) ?_))); rintro e w2 ⟨neg2, ao2, cap2, k2, l2, rfl, HK2, HC2, hb2⟩; have hW2 := below_call hb1 hb2 hb1.size; obtain ⟨hc2, hf2⟩ := bcell hW2; simp only [asize, dsize] at hc2 hf2))
    all_goals (go_wp2_with fail; go_meet; exact ⟨neg1, ao1, cap1, _, neg2, ao2, cap2, _, boxed2_mk HK1 HC1 HK2 HC2 (laid2 w n1 s1 n2 s2).1 (laid2 w n1 s1 n2 s2).2.1 (laid2 w n1 s1 n2 s2).2.2.1 (laid2 w n1 s1 n2 s2).2.2.2.1 (laid2 w n1 s1 n2 s2).2.2.2.2 (below_undrew hW2)⟩)
  case rest =>
    obtain ⟨neg1, ao1, cap1, l1, neg2, ao2, cap2, l2, HB⟩ := hcut
    have HB' := hid HB
    have a0 := HB.b1.c0
    have a1 := HB.b1.c1
    have b0 := HB.b2.c0
    have b1 := HB.b2.c1
    have HC := hid (cmp_sgn neg1 neg2 l1 l2 HB.c1.2.2.1 HB.c2.2.2.1)
    have hbl := HB.bl
    have HZ : Hid (cmpI x y = cmpI (sgn neg1 (val l1)) (sgn neg2 (val l2))) := hid (by rw [HB.c1.2.2.2, HB.c2.2.2.2])
    clear HB
    cases neg1 <;> cases neg2
    · go_wp2_with fail
      refine (cmpLimbs_any _ ao1 cap1 l1 ao2 cap2 l2 (by exact HB'.out.c1.1.below hbl) (by exact HB'.out.c2.1.below hbl) (may_canon HB'.out.c1.2.2.1) (may_canon HB'.out.c2.2.2.1)).mono ?_
      rintro e w3 ⟨rfl, hb3⟩
      clear a0 a1 b0 b1
      go_wp2
      go_ret
      exact ⟨ret_int (by rw [HZ.out, HC.out]; simp), below_call hbl hb3 hbl.size⟩
    · go_wp2
      go_ret
      exact ⟨ret_int (by rw [HZ.out, HC.out]; simp), hbl⟩
    · go_wp2
      go_ret
      exact ⟨ret_int (by rw [HZ.out, HC.out]; simp), hbl⟩
    · go_wp2_with fail
      refine (cmpLimbs_any _ ao2 cap2 l2 ao1 cap1 l1 (by exact HB'.out.c2.1.below hbl) (by exact HB'.out.c1.1.below hbl) (may_canon HB'.out.c2.2.2.1) (may_canon HB'.out.c1.2.2.1)).mono ?_
      rintro e w3 ⟨rfl, hb3⟩
      clear a0 a1 b0 b1
      go_wp2
      go_ret
      exact ⟨ret_int (by rw [HZ.out, HC.out]; simp), below_call hbl hb3 hbl.size⟩

theorem copied_k (w : World) (ao : Option Addr) (cap k : Nat) (l : List Nat) (hk : k = l.length) (h : SlAt w ao cap l) (hl : l.length ≤ 1000000) :
    Calls Try.prog 92 #[.slice ao k cap] w fun e w' => e = .returned (.slice (some ⟨w.heap.size, 0, none⟩) k k) ∧ SlAt w' (some ⟨w.heap.size, 0, none⟩) k l ∧ Below w.heap.size w w' := by
  subst hk
  refine (copied_any w ao cap l h hl).mono ?_
  rintro e w' ⟨rfl, hr, hb⟩
  exact ⟨rfl, hr.whole h.1 (by omega), hb⟩

set_option maxHeartbeats 3200000 in
theorem neg_num (w : World) (u : Value) (n : Nat) (x : Int) (hx : Arg w u n x) (hn : n ≤ 1000000) :
    Calls Try.prog 102 #[u] w (Told w.heap.size n (-x) w) := by
  have HX := hid hx
  obtain ⟨n1, s1, l1, rfl, -⟩ := hx
  go_enter Try.func102, Try.ntmps102
  go_wp2_with fail
  refine (counted_h w _ _ n x HX.out (by repeat (first | exact Below.refl _ _ | refine Below.alloc ?_ ?_ _ | refine Below.setCell ?_ ?_ _ | refine Below.drew ?_ | refine below_drewN ?_ _ | (· simp) | omega | (· simp; omega) | exact Below.size (by assumption) | assumption | refine below_call ?_ (by assumption) ?_))).mono ?_
  rintro e w1 ⟨neg, ao, cap, k, l, rfl, HK, HC, hb1⟩
  have bA := (((Box.new w (.bool n1) s1 w.heap.size rfl).alloc (.cells #[.bool false, .slice none 0 0] 27)).keep hb1)
  have bR := ((Box.new (w.alloc (.cells #[.bool n1, s1] 27)) (.bool false) (.slice none 0 0) (w.heap.size + 1) (by simp)).keep hb1)
  have x0 := bA.c0
  have x1 := bA.c1
  have xf := bA.f
  have bA2 : Box ((w1.setCell ⟨w.heap.size, 0, none⟩ (.bool neg)).setCell ⟨w.heap.size, 1, none⟩ (.slice ao k cap)) w.heap.size (.bool neg) (.slice ao k cap) := (bA.set0 _).set1 _
  have bR2 : Box ((w1.setCell ⟨w.heap.size, 0, none⟩ (.bool neg)).setCell ⟨w.heap.size, 1, none⟩ (.slice ao k cap)) (w.heap.size + 1) (.bool false) (.slice none 0 0) := (bR.other (by simp) _).other (by simp) _
  have hW2 : Below w.heap.size w ((w1.setCell ⟨w.heap.size, 0, none⟩ (.bool neg)).setCell ⟨w.heap.size, 1, none⟩ (.slice ao k cap)) := (by repeat (first | exact Below.refl _ _ | refine Below.alloc ?_ ?_ _ | refine Below.setCell ?_ ?_ _ | refine Below.drew ?_ | refine below_drewN ?_ _ | (· simp) | omega | (· simp; omega) | exact Below.size (by assumption) | assumption | refine below_call ?_ (by assumption) ?_))
  clear bA bR hb1
  go_wp2_with fail
  clear x0 x1 xf
  generalize ((w1.setCell ⟨w.heap.size, 0, none⟩ (.bool neg)).setCell ⟨w.heap.size, 1, none⟩ (.slice ao k cap)) = v1 at *
  have y0 := bA2.c0
  have y1 := bA2.c1
  have HB2 := hid bR2
  have HA2 := hid bA2
  have hz := bR2.lt
  clear bA2 bR2
  go_region_held3 (fun w' => (w'.cell? ⟨w.heap.size, 0, none⟩ = some (.bool neg) ∧ w'.cell? ⟨w.heap.size, 1, none⟩ = some (.slice ao k cap))) (refine ⟨?_, ?_⟩ <;> repeat (first | with_reducible exact z40 | with_reducible exact z41 | with_reducible exact z30 | with_reducible exact z31 | with_reducible refine cell_far ?_ ?_ | with_reducible refine cell_drew ?_ | with_reducible exact y0 | with_reducible exact y1 | (· simp) | (· simp; omega))) (first
    | (go_at_call 92; go_must (refine (copied_k _ ao cap k l HK.out (by exact (HC.1.below hW2).drew) (by have := HC.2.1; omega)).mono ?_); rintro e w3 ⟨rfl, hr3, hb3⟩; have b3 := HA2.out.drew.keep hb3; have z30 := b3.c0; have z31 := b3.c1; have HA3 := hid b3; have HB3 := hid (HB2.out.drew.keep hb3); have hz3 := hb3.size; simp only [dsize] at hz3; clear b3)
    | (go_at_call 65; go_must (refine (made_k _ (w.heap.size + 1 + 1) _ _ k k l HK.out (by exact hr3) (from_row _ _ _ (by first | omega | (simp only [dsize]; omega)))).mono ?_); rintro e w4 ⟨nr, ar, kr, cr, rfl, HI, hb4⟩; have b4 := HA3.out.keep hb4; have z40 := b4.c0; have z41 := b4.c1; have b5 := HB3.out.keep hb4; have r0 := b5.c0; have r1 := b5.c1; have rf := b5.f; clear b4 b5))
  have HZ : Hid (-x = sgn (!neg) (val l)) := hid (by rw [HC.2.2.2]; cases neg <;> simp [sgn])
  have hW4 : Below w.heap.size w w4 := below_call (below_call hW2.drew hb3 (by rw [dsize]; exact hW2.size)) hb4 (by omega)
  have hl := HC.2.1
  clear hb3 hb4 z30 z31 z40 z41 y0 y1 hr3
  go_wp2
  refine bodyPost_ret (v := .agg #[.bool nr, .slice ar kr cr]) ?_ rfl ⟨nr, ar, kr, cr, rfl, ?_, (by repeat (first | exact Below.refl _ _ | refine Below.alloc ?_ ?_ _ | refine Below.setCell ?_ ?_ _ | refine Below.drew ?_ | refine below_drewN ?_ _ | (· simp) | omega | (· simp; omega) | exact Below.size (by assumption) | assumption | refine below_call ?_ (by assumption) ?_))⟩
  · simp [results, Try.results102, go_sem, r0, r1]
  · rw [HZ.out]
    exact ((HI.out.setCell (by simp) _).setCell (by simp) _).mono (by omega) hl

end Go.Proofs.Ytalblhcfkfockaa
