/-
  Walks: a quotient read of a text.
-/
import Derived.Test.YtogdchddmjokmaaGreatDoorK5
namespace Go.Proofs.YtogdchddmjokmaaGreatDoor
open Go.RowKit Lm
set_option linter.unusedSimpArgs false
set_option linter.unusedVariables false
set_option maxRecDepth 100000

/-- What stands ahead of the first '/', what behind it (1 where there is none). -/
def upS (s : ByteArray) : ByteArray := ⟨(Lib.cut s.data.toList [47]).1.toArray⟩
def doS (s : ByteArray) : ByteArray := if (Lib.cut s.data.toList [47]).2.2 then ⟨(Lib.cut s.data.toList [47]).2.1.toArray⟩ else ⟨#[49]⟩
/-- The error that Read tells. -/
def readE (s : ByteArray) : Nat :=
  if 10001 < s.size then 2
  else if ¬ textOf (wholeV (upS s)) = lst (upS s) ∨ ¬ textOf (wholeV (doS s)) = lst (doS s) then 4
  else if wholeV (doS s) = 0 then 11
  else if textR (Rat.divInt (wholeV (upS s)) (wholeV (doS s))) = s then 0 else 4
def readQ (s : ByteArray) : Rat := Rat.divInt (wholeV (upS s)) (wholeV (doS s))
/-- The variable that strings.Cut reads. -/
def ML (w : World) : Prop := ∃ m : Int, w.cell? ⟨0, 0, none⟩ = some (.int .i64 m)
theorem cell_lt {w : World} {b i : Nat} {v : Value} (h : w.cell? ⟨b, i, none⟩ = some v) : b < w.heap.size := by
  by_cases hb : b < w.heap.size
  · exact hb
  · exfalso
    unfold World.cell? at h
    simp [Array.getElem?_eq_none (Nat.le_of_not_lt hb)] at h
theorem ML.below {w w' : World} (h : ML w) (hb : Below w.heap.size w w') : ML w' := by
  obtain ⟨m, h⟩ := h
  exact ⟨m, (hb.cell (p := ⟨0, 0, none⟩) (cell_lt h)).trans h⟩

/-- What Read tells. -/
def ReadP (w : World) (s : ByteArray) (e : Ending) (w' : World) : Prop :=
  (readE s ≠ 0 ∧ e = .returned (.tuple #[.agg #[.bool false, .slice none 0 0, .bool false, .slice none 0 0], .int .i64 (readE s : Nat)]) ∧ Below w.heap.size w w') ∨
  (readE s = 0 ∧ ∃ n1 a1 k1 c1 n2 a2 k2 c2, e = .returned (.tuple #[.agg #[.bool n1, .slice a1 k1 c1, .bool n2, .slice a2 k2 c2], .int .i64 0]) ∧ RIs w' 0 (.agg #[.bool n1, .slice a1 k1 c1, .bool n2, .slice a2 k2 c2]) 20000 (readQ s) ∧ Below w.heap.size w w')

theorem up_size (s : ByteArray) : (upS s).size ≤ s.size := by
  have h : (upS s).size = (Lib.cut s.data.toList [47]).1.length := by rw [upS]; rfl
  rw [h, ← data_len, Lib.cut]
  split
  · simp only [List.length_take]; omega
  · exact Nat.le_refl _
theorem do_size (s : ByteArray) (hs : s.size ≤ 20000) : (doS s).size ≤ 20000 := by
  rw [← data_len] at hs
  unfold doS
  split
  · have h : (⟨(Lib.cut s.data.toList [47]).2.1.toArray⟩ : ByteArray).size = (Lib.cut s.data.toList [47]).2.1.length := rfl
    rw [h, Lib.cut]
    split
    · simp only [List.length_drop]; omega
    · simp
  · show 1 ≤ 20000
    omega
theorem text_bool2 (a b : ByteArray) : (a.toList == b.toList) = decide (a = b) := by
  by_cases h : a = b
  · subst h; simp
  · rw [decide_eq_false h]
    have : ¬ a.toList = b.toList := fun e => h (lst_inj (by rw [lst, lst, e]))
    simpa using this

set_option maxHeartbeats 1600000 in
theorem ratRead_any (w : World) (s : ByteArray) (hs : s.size ≤ 9223372036854775807) (hE : ES w) (hM : ML w) : Calls Tryz.prog 6 #[.string s] w (ReadP w s) := by
  have HE := hid hE
  have HM := hid hM
  clear hE hM
  by_cases hl : 10001 < s.size
  · have hi : (10001 : Int) < (s.size : Int) := by omega
    have HR : Hid (readE s = 2) := hid (by rw [readE, if_pos hl])
    go_enter Tryz.func6, Tryz.ntmps6
    go_wp2
    refine bodyPost_ret (v := .tuple #[.agg #[.bool false, .slice none 0 0, .bool false, .slice none 0 0], .int .i64 (2 : Nat)]) ?_ rfl (.inl ⟨by rw [HR.out]; omega, by rw [HR.out], (Below.refl _ _).alloc (Nat.le_refl _) _⟩)
    simp [results, Tryz.results6, go_sem]
  · have hi : ¬ (10001 : Int) < (s.size : Int) := by omega
    have HA := hid (show (upS s).size ≤ 20000 by have := up_size s; omega)
    have HB := hid (do_size s (by omega))
    obtain ⟨T, hT⟩ : ∃ T, T = (Lib.cut s.data.toList [47]).2.2 := ⟨_, rfl⟩
    obtain ⟨dd, hdd⟩ : ∃ dd : ByteArray, dd = ⟨(Lib.cut s.data.toList [47]).2.1.toArray⟩ := ⟨_, rfl⟩
    have hD : doS s = if T then dd else ⟨#[49]⟩ := by rw [doS, ← hT, ← hdd]
    have HC : Hid (∀ W : World, ML W → Calls Tryz.prog 16 #[.string s, .string ⟨#[47]⟩] W fun e w' => e = .returned (.tuple #[.string (upS s), .string dd, .bool T]) ∧ Below W.heap.size W w') := hid (fun W ⟨m, hm⟩ => by
      refine (Tryz.strings_Cut s ⟨#[47]⟩ m W (by omega) hm).mono ?_
      rintro e w' ⟨rfl, n, rfl⟩
      exact ⟨by rw [hT, hdd, upS], below_drewN (Below.refl _ _) _⟩)
    have HP1 : Hid (∀ r, readE s = r → (¬ (textOf (wholeV (upS s)) = lst (upS s)) ∨ ¬ textOf (wholeV (doS s)) = lst (doS s)) → r = 4) := hid (fun r h h1 => by rw [← h, readE, if_neg hl, if_pos h1])
    have HP2 : Hid (textOf (wholeV (upS s)) = lst (upS s) → textOf (wholeV (doS s)) = lst (doS s) → wholeV (doS s) = 0 → readE s = 11) := hid (fun h1 h2 h3 => by rw [readE, if_neg hl, if_neg (by simp [h1, h2]), if_pos h3])
    have HP3 : Hid (textOf (wholeV (upS s)) = lst (upS s) → textOf (wholeV (doS s)) = lst (doS s) → wholeV (doS s) ≠ 0 → readE s = if textR (readQ s) = s then 0 else 4) := hid (fun h1 h2 h3 => by rw [readE, if_neg hl, if_neg (by simp [h1, h2]), if_neg h3]; rfl)
    clear hT hdd hl
    go_enter Tryz.func6, Tryz.ntmps6
    go_wp2_with fail
    have hW0 : Below w.heap.size w (w.alloc (.cells #[.bool false, .slice none 0 0, .bool false, .slice none 0 0] 26)) := (by repeat (first | exact Below.refl _ _ | refine Below.alloc ?_ ?_ _ | refine Below.setCell ?_ ?_ _ | refine Below.drew ?_ | refine below_drewN ?_ _ | (· simp) | omega | (· simp; omega) | exact Below.size (by assumption) | assumption | refine below_call ?_ (by assumption) ?_))
    have bR : Box4 (w.alloc (.cells #[.bool false, .slice none 0 0, .bool false, .slice none 0 0] 26)) w.heap.size (.bool false) (.slice none 0 0) (.bool false) (.slice none 0 0) := Box4.new _ _ _ _ _ _ rfl
    generalize w.alloc (.cells #[.bool false, .slice none 0 0, .bool false, .slice none 0 0] 26) = W0 at *
    refine (HC.out _ (HM.out.below hW0)).mono ?_
    rintro e w1 ⟨rfl, hb1⟩
    have hW1 := below_call hW0 hb1 hW0.size
    have bR1 := bR.keep hb1
    clear hb1 hW0 bR
    cases T
    all_goals
      simp only [if_true, if_false, Bool.false_eq_true] at hD
      have HW2 : Hid (∀ W, ES W → Calls Tryz.prog 17 #[.string (doS s)] W (WholeP W (doS s))) := hid (fun W hW => whole_any W _ HB.out hW)
      have HD := hid hD
      go_wp2_with fail
      refine (whole_any w1 (upS s) HA.out (HE.out.below hW1)).mono ?_
      rintro e w2 ⟨n1, a1, k1, c1, rfl, hA2, hb2⟩
      have hW2 := below_call hW1 hb2 hW1.size
      have bR2 := bR1.keep hb2
      have HA2 := hid hA2
      generalize hpA : decide (textOf (wholeV (upS s)) = lst (upS s)) = pA
      have HpA := hid hpA
      clear hb2 bR1 hW1 hA2 hpA
      clear hD
      go_wp2_with fail
      (first | rw [← HD.out] | skip)
      have hst : Below w2.heap.size w2 (w2.alloc (.cells #[.bool n1, .slice a1 k1 c1] 24)) := (Below.refl _ _).alloc (Nat.le_refl _) _
      have bX : Box (w2.alloc (.cells #[.bool n1, .slice a1 k1 c1] 24)) w2.heap.size (.bool n1) (.slice a1 k1 c1) := Box.new _ _ _ _ rfl
      have hW3 := below_call hW2 hst hW2.size
      have bR3 := bR2.keep hst
      have HA3 := hid (HA2.out.below hst)
      have hX3 : w2.heap.size < (w2.alloc (.cells #[.bool n1, .slice a1 k1 c1] 24)).heap.size := bX.lt
      have hX4 : w.heap.size < w2.heap.size := bR2.lt
      clear hst bR2 hW2 HA2
      generalize w2.alloc (.cells #[.bool n1, .slice a1 k1 c1] 24) = W3 at *
      refine (HW2.out W3 (HE.out.below hW3)).mono ?_
      rintro e w4 ⟨n2, a2, k2, c2, rfl, hA4, hb4⟩
      have hW4 := below_call hW3 hb4 hW3.size
      have bR4 := bR3.keep hb4
      have bX4 := bX.keep hb4
      have HA4 := hid (HA3.out.below hb4)
      have HB4 := hid hA4
      have hX5 : W3.heap.size ≤ w4.heap.size := hb4.size
      generalize hpB : decide (textOf (wholeV (doS s)) = lst (doS s)) = pB
      have HpB := hid hpB
      clear hb4 bR3 bX hW3 hA4 hpB HA3 HW2 HC
      by_cases hAB : pA = true ∧ pB = true
      · obtain ⟨rfl, rfl⟩ := hAB
        have h1 : textOf (wholeV (upS s)) = lst (upS s) := of_decide_eq_true HpA.out
        have h2 : textOf (wholeV (doS s)) = lst (doS s) := of_decide_eq_true HpB.out
        have HQ2 := hid (HP2.out h1 h2)
        have HQ3 := hid (HP3.out h1 h2)
        clear h1 h2 HP1 HP2 HP3
        (go_upto_if 40 with fail; have hst : Below w4.heap.size w4 (w4.alloc (.cells #[.bool n2, .slice a2 k2 c2] 24)) := (Below.refl _ _).alloc (Nat.le_refl _) _; have bY5 : Box (w4.alloc (.cells #[.bool n2, .slice a2 k2 c2] 24)) w4.heap.size (.bool n2) (.slice a2 k2 c2) := Box.new _ _ _ _ rfl; have hW5 := below_call hW4 hst hW4.size; have bR5 := bR4.keep hst; have bX5 := bX4.keep hst; have HA5 := hid (HA4.out.below hst); have HB5 := hid (HB4.out.below hst); clear hst bR4 bX4 hW4 HA4 HB4; generalize w4.alloc (.cells #[.bool n2, .slice a2 k2 c2] 24) = W5 at *; obtain ⟨r0, r1, r2, r3⟩ := bR5.c; have rf := bR5.f; have rl := bR5.lt; obtain ⟨x0, x1⟩ := keepB bX5 (Below.refl _ _); obtain ⟨y0, y1⟩ := keepB bY5 (Below.refl _ _); have xl := bX5.lt; have yl := bY5.lt)
        go_wp2_with fail
        by_cases hq0 : wholeV (doS s) = 0
        · refine (quo_zero W5 _ _ 10000 10000 _ _ HA5.out HB5.out hq0).mono ?_
          rintro e w6 ⟨rfl, hb6⟩
          have HR11 := hid (HQ2.out hq0)
          have hW6 := below_call hW5 hb6 hW5.size
          have bR6 := bR5.keep hb6
          clear hq0 hb6 r0 r1 r2 r3 rf rl x0 x1 y0 y1 xl yl bR5 hW5
          go_upto_if 49 with fail
          have hst : Below w6.heap.size w6 (w6.alloc (.cells #[.bool false, .slice none 0 0, .bool false, .slice none 0 0] 26)) := (Below.refl _ _).alloc (Nat.le_refl _) _
          have hW7 := below_call hW6 hst hW6.size
          have bR7 := bR6.keep hst
          clear hst hW6 bR6 bX5 bY5 HA5 HB5 HQ2 HQ3 HpA HpB HD
          generalize w6.alloc (.cells #[.bool false, .slice none 0 0, .bool false, .slice none 0 0] 26) = W7 at *
          obtain ⟨r0, r1, r2, r3⟩ := bR7.c
          have rf := bR7.f
          have rl := bR7.lt
          go_wp2
          refine bodyPost_ret (v := .tuple #[.agg #[.bool false, .slice none 0 0, .bool false, .slice none 0 0], .int .i64 (11 : Nat)]) ?_ rfl (.inl ⟨by rw [HR11.out]; omega, by rw [HR11.out], below_fill4 hW7 (Nat.le_refl _) _ _ _ _⟩)
          simp [results, Tryz.results6, go_sem, r0, r1, r2, r3]
        · refine (quo_any W5 _ _ 10000 10000 _ _ HA5.out HB5.out hq0 (by omega) (by omega)).mono ?_
          rintro e w6 ⟨m1, p1, j1, d1, m2, p2, j2, d2, rfl, hI, hb6⟩
          have HR3 := hid (HQ3.out hq0)
          have hW6 := below_call hW5 hb6 hW5.size
          have bR6 := bR5.keep hb6
          have HI6 : Hid (RIs w6 0 (.agg #[.bool m1, .slice p1 j1 d1, .bool m2, .slice p2 j2 d2]) 20000 (readQ s)) := hid (hI.mono (Nat.le_refl _) (by omega))
          clear hq0 hb6 hI r0 r1 r2 r3 rf rl x0 x1 y0 y1 xl yl bR5 hW5
          go_upto_if 49 with fail
          have hst : Below w6.heap.size w6 (w6.alloc (.cells #[.bool m1, .slice p1 j1 d1, .bool m2, .slice p2 j2 d2] 26)) := (Below.refl _ _).alloc (Nat.le_refl _) _
          have bZ : Box4 (w6.alloc (.cells #[.bool m1, .slice p1 j1 d1, .bool m2, .slice p2 j2 d2] 26)) w6.heap.size (.bool m1) (.slice p1 j1 d1) (.bool m2) (.slice p2 j2 d2) := Box4.new _ _ _ _ _ _ rfl
          have hW7 := below_call hW6 hst hW6.size
          have bR7 := bR6.keep hst
          have HI7 := hid (HI6.out.below hst)
          have hlt7 : w.heap.size ≤ w6.heap.size := hW6.size
          clear hst hW6 bR6 bX5 bY5 HA5 HB5 HQ2 HQ3 HpA HpB HD HI6
          generalize w6.alloc (.cells #[.bool m1, .slice p1 j1 d1, .bool m2, .slice p2 j2 d2] 26) = W7 at *
          obtain ⟨z0, z1, z2, z3⟩ := bZ.c
          go_wp2_with fail
          refine (ratText_any W7 _ 20000 (readQ s) HI7.out.arg (by omega)).mono ?_
          rintro e w8 ⟨rfl, hb8⟩
          have hW8 := below_call hW7 hb8 hW7.size
          have bR8 := bR7.keep hb8
          have bZ8 := bZ.keep hb8
          have HI8 := hid (HI7.out.below hb8)
          clear hb8 bR7 bZ HI7 z0 z1 z2 z3 hW7
          obtain ⟨r0, r1, r2, r3⟩ := bR8.c
          have rf := bR8.f
          have rl := bR8.lt
          obtain ⟨z0, z1, z2, z3⟩ := bZ8.c
          by_cases ht : textR (readQ s) = s
          · have HR0 := HR3.out
            rw [if_pos ht] at HR0
            have HR := hid HR0
            have ht2 : ((textR (readQ s)).toList == s.toList) = true := by rw [text_bool2]; exact decide_eq_true ht
            have HJ := hid (HI8.out.off4 bR8 (grow4 w8 w.heap.size (.bool m1) (.slice p1 j1 d1) (.bool m2) (.slice p2 j2 d2)))
            have HW := hid (below_fill4 hW8 (Nat.le_refl _) (.bool m1) (.slice p1 j1 d1) (.bool m2) (.slice p2 j2 d2))
            clear ht HR0 HR3 hW8 bR8 bZ8 HI8
            go_wp2
            refine bodyPost_ret (v := .tuple #[.agg #[.bool m1, .slice p1 j1 d1, .bool m2, .slice p2 j2 d2], .int .i64 0]) ?_ rfl (.inr ⟨HR.out, m1, p1, j1, d1, m2, p2, j2, d2, rfl, HJ.out, HW.out⟩)
            simp [results, Tryz.results6, go_sem, r0, r1, r2, r3]
          · have HR0 := HR3.out
            rw [if_neg ht] at HR0
            have HR4 := hid HR0
            have ht2 : ((textR (readQ s)).toList == s.toList) = false := by rw [text_bool2]; exact decide_eq_false ht
            have hW5 := hW8
            clear ht HR0 HR3 bR8 bZ8 HI8
            (go_wp2; (refine bodyPost_ret (v := .tuple #[.agg #[.bool false, .slice none 0 0, .bool false, .slice none 0 0], .int .i64 (4 : Nat)]) ?_ rfl (.inl ⟨by rw [HR4.out]; omega, by rw [HR4.out], below_fill4 hW5 (Nat.le_refl _) _ _ _ _⟩)); simp [results, Tryz.results6, go_sem, r0, r1, r2, r3])
      · have HR4 : Hid (readE s = 4) := hid (HP1.out _ rfl (by
          by_cases h1 : textOf (wholeV (upS s)) = lst (upS s)
          · refine .inr (fun h2 => hAB ⟨?_, ?_⟩)
            · rw [← HpA.out]; exact decide_eq_true h1
            · rw [← HpB.out]; exact decide_eq_true h2
          · exact .inl h1))
        have HAB := hid hAB
        clear hAB HpA HpB HP1 HP2 HP3
        cases pA
        · (go_upto_if 40 with fail; have hst : Below w4.heap.size w4 (w4.alloc (.cells #[.bool n2, .slice a2 k2 c2] 24)) := (Below.refl _ _).alloc (Nat.le_refl _) _; have bY5 : Box (w4.alloc (.cells #[.bool n2, .slice a2 k2 c2] 24)) w4.heap.size (.bool n2) (.slice a2 k2 c2) := Box.new _ _ _ _ rfl; have hW5 := below_call hW4 hst hW4.size; have bR5 := bR4.keep hst; have bX5 := bX4.keep hst; have HA5 := hid (HA4.out.below hst); have HB5 := hid (HB4.out.below hst); clear hst bR4 bX4 hW4 HA4 HB4; generalize w4.alloc (.cells #[.bool n2, .slice a2 k2 c2] 24) = W5 at *; obtain ⟨r0, r1, r2, r3⟩ := bR5.c; have rf := bR5.f; have rl := bR5.lt; obtain ⟨x0, x1⟩ := keepB bX5 (Below.refl _ _); obtain ⟨y0, y1⟩ := keepB bY5 (Below.refl _ _); have xl := bX5.lt; have yl := bY5.lt)
          (go_wp2; (refine bodyPost_ret (v := .tuple #[.agg #[.bool false, .slice none 0 0, .bool false, .slice none 0 0], .int .i64 (4 : Nat)]) ?_ rfl (.inl ⟨by rw [HR4.out]; omega, by rw [HR4.out], below_fill4 hW5 (Nat.le_refl _) _ _ _ _⟩)); simp [results, Tryz.results6, go_sem, r0, r1, r2, r3])
        · cases pB
          · (go_upto_if 40 with fail; have hst : Below w4.heap.size w4 (w4.alloc (.cells #[.bool n2, .slice a2 k2 c2] 24)) := (Below.refl _ _).alloc (Nat.le_refl _) _; have bY5 : Box (w4.alloc (.cells #[.bool n2, .slice a2 k2 c2] 24)) w4.heap.size (.bool n2) (.slice a2 k2 c2) := Box.new _ _ _ _ rfl; have hW5 := below_call hW4 hst hW4.size; have bR5 := bR4.keep hst; have bX5 := bX4.keep hst; have HA5 := hid (HA4.out.below hst); have HB5 := hid (HB4.out.below hst); clear hst bR4 bX4 hW4 HA4 HB4; generalize w4.alloc (.cells #[.bool n2, .slice a2 k2 c2] 24) = W5 at *; obtain ⟨r0, r1, r2, r3⟩ := bR5.c; have rf := bR5.f; have rl := bR5.lt; obtain ⟨x0, x1⟩ := keepB bX5 (Below.refl _ _); obtain ⟨y0, y1⟩ := keepB bY5 (Below.refl _ _); have xl := bX5.lt; have yl := bY5.lt)
            (go_wp2; (refine bodyPost_ret (v := .tuple #[.agg #[.bool false, .slice none 0 0, .bool false, .slice none 0 0], .int .i64 (4 : Nat)]) ?_ rfl (.inl ⟨by rw [HR4.out]; omega, by rw [HR4.out], below_fill4 hW5 (Nat.le_refl _) _ _ _ _⟩)); simp [results, Tryz.results6, go_sem, r0, r1, r2, r3])
          · exact absurd ⟨rfl, rfl⟩ HAB.out

end Go.Proofs.YtogdchddmjokmaaGreatDoor
