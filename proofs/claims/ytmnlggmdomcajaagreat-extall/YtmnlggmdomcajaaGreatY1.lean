/-
  Quotients with ends, the document's: whether one may be, what it counts as.
-/
import Derived.Test.YtmnlggmdomcajaaGreatXB
import Derived.Test.YtmnlggmdomcajaaGreatDA
import Derived.Test.YtmnlggmdomcajaaGreatEA
namespace Go.Proofs.YtmnlggmdomcajaaGreat
open Go.RowKit Lm
set_option linter.unusedSimpArgs false
set_option linter.unusedVariables false
set_option maxRecDepth 100000

set_option maxHeartbeats 1600000 in
theorem rzero_any (w : World) (n1 : Bool) (a1 : Option Addr) (L1 c1 : Nat) (n2 : Bool) (a2 : Option Addr) (L2 c2 : Nat) (hk1 : L1 ≤ 9223372036854775807) (hk2 : L2 ≤ 9223372036854775807) :
    Calls Tryz.prog 43 #[.agg #[.bool n1, .slice a1 L1 c1, .bool n2, .slice a2 L2 c2]] w fun e w' => e = .returned (.bool (zeroB n1 L1 n2 L2)) ∧ Below w.heap.size w w' := by
  have hW0 : Below w.heap.size w (w.alloc (.cells #[.bool n1, .slice a1 L1 c1, .bool n2, .slice a2 L2 c2] 26)) := (by repeat (first | exact Below.refl _ _ | refine Below.alloc ?_ ?_ _ | refine Below.setCell ?_ ?_ _ | refine Below.drew ?_ | refine below_drewN ?_ _ | (· simp) | omega | (· simp; omega) | exact Below.size (by assumption) | assumption | refine below_call ?_ (by assumption) ?_))
  have HW := hid hW0
  clear hW0
  go_enter Tryz.func43, Tryz.ntmps43
  by_cases h1 : L1 = 0
  · subst h1
    by_cases h2 : L2 = 0
    · subst h2
      cases n1 <;> cases n2 <;> (go_wp2; go_ret; exact ⟨rfl, HW.out⟩)
    · have hb : ((L2 : Int) == 0) = false := by simp; omega
      have HF : Hid (∀ n1 n2, zeroB n1 0 n2 L2 = false) := hid (fun n1 n2 => by unfold zeroB; rw [decide_eq_false h2]; simp)
      clear h2
      cases n1 <;> (go_wp2; go_ret; exact ⟨ret_bool (HF.out _ _).symm, HW.out⟩)
  · have hb : ((L1 : Int) == 0) = false := by simp; omega
    have HF : Hid (zeroB n1 L1 n2 L2 = false) := hid (by unfold zeroB; rw [decide_eq_false h1]; simp)
    clear h1
    go_wp2
    go_ret
    exact ⟨ret_bool HF.out.symm, HW.out⟩

/-- Whether one may be. -/
def mayE (k : Int) (n1 : Bool) (l1 : List Nat) (n2 : Bool) (l2 : List Nat) : Bool := if k = 0 then ratMayB n1 l1 n2 l2 else endB k n1 l1.length n2 l2.length

set_option maxHeartbeats 1600000 in
theorem rMayExt_any (w : World) (k : Int) (n1 : Bool) (a1 : Option Addr) (c1 : Nat) (l1 : List Nat) (n2 : Bool) (a2 : Option Addr) (c2 : Nat) (l2 : List Nat) (h1 : SlAt w a1 c1 l1) (h2 : SlAt w a2 c2 l2) (q1 : l1.length ≤ 100000) (q2 : l2.length ≤ 100000) :
    Calls Tryz.prog 12 #[.agg #[.int .i64 k, .bool n1, .slice a1 l1.length c1, .bool n2, .slice a2 l2.length c2]] w fun e w' => e = .returned (.bool (mayE k n1 l1 n2 l2)) ∧ Below w.heap.size w w' := by
  have HM : Hid (∀ W, Below w.heap.size w W → Calls Tryz.prog 42 #[.agg #[.bool n1, .slice a1 l1.length c1, .bool n2, .slice a2 l2.length c2]] W fun e w' => e = .returned (.bool (ratMayB n1 l1 n2 l2)) ∧ Below W.heap.size W w') := hid (fun W hW => rmayRat_any W n1 n2 a1 a2 c1 c2 l1 l2 (h1.below hW) (h2.below hW) q1 q2)
  have HE : Hid (mayE k n1 l1 n2 l2 = if k = 0 then ratMayB n1 l1 n2 l2 else (decide (k = -1) || decide (k = 1)) && zeroB n1 l1.length n2 l2.length) := hid rfl
  generalize mayE k n1 l1 n2 l2 = me at *
  generalize ratMayB n1 l1 n2 l2 = mb at *
  generalize l1.length = L1 at *
  generalize l2.length = L2 at *
  clear h1 h2
  have hW0 : Below w.heap.size w (w.alloc (.cells #[.int .i64 k, .bool n1, .slice a1 L1 c1, .bool n2, .slice a2 L2 c2] 28)) := (by repeat (first | exact Below.refl _ _ | refine Below.alloc ?_ ?_ _ | refine Below.setCell ?_ ?_ _ | refine Below.drew ?_ | refine below_drewN ?_ _ | (· simp) | omega | (· simp; omega) | exact Below.size (by assumption) | assumption | refine below_call ?_ (by assumption) ?_))
  have bA : Box5 (w.alloc (.cells #[.int .i64 k, .bool n1, .slice a1 L1 c1, .bool n2, .slice a2 L2 c2] 28)) w.heap.size (.int .i64 k) (.bool n1) (.slice a1 L1 c1) (.bool n2) (.slice a2 L2 c2) := Box5.new _ _ _ _ _ _ _ rfl
  have HW := hid hW0
  clear hW0
  go_enter Tryz.func12, Tryz.ntmps12
  obtain ⟨x0, x1, x2, x3, x4⟩ := bA.c
  by_cases h0 : k = 0
  · have hkb : (k == 0) = true := by simp [h0]
    have HR0 : Hid (me = mb) := hid (by rw [HE.out, if_pos h0])
    clear h0 HE
    go_wp2_with fail
    clear x0 x1 x2 x3 x4
    generalize w.alloc (.cells #[.int .i64 k, .bool n1, .slice a1 L1 c1, .bool n2, .slice a2 L2 c2] 28) = W0 at *
    refine (HM.out _ HW.out).mono ?_
    rintro e w1 ⟨rfl, hb⟩
    have HR := hid (below_call HW.out hb HW.out.size)
    clear hb
    go_wp2
    go_ret
    exact ⟨ret_bool HR0.out.symm, HR.out⟩
  · have hkb : (k == 0) = false := by simp [h0]
    have HE2 : Hid (me = ((decide (k = -1) || decide (k = 1)) && zeroB n1 L1 n2 L2)) := hid (by rw [HE.out, if_neg h0])
    clear h0 HE HM
    by_cases h1 : k = 1
    · have hk1 : (k == 1) = true := by simp [h1]
      have HE3 : Hid (me = zeroB n1 L1 n2 L2) := hid (by rw [HE2.out, decide_eq_true h1]; simp)
      clear h1 HE2
      go_wp2_with fail
      clear x0 x1 x2 x3 x4
      generalize w.alloc (.cells #[.int .i64 k, .bool n1, .slice a1 L1 c1, .bool n2, .slice a2 L2 c2] 28) = W0 at *
      refine (rzero_any _ n1 a1 L1 c1 n2 a2 L2 c2 (by omega) (by omega)).mono ?_
      rintro e w1 ⟨rfl, hb⟩
      have HR := hid (below_call HW.out hb HW.out.size)
      clear hb
      generalize zeroB n1 L1 n2 L2 = zb at *
      go_wp2
      go_ret
      exact ⟨ret_bool HE3.out.symm, HR.out⟩
    · have hk1 : (k == 1) = false := by simp [h1]
      by_cases h2 : k = -1
      · have hk2 : (k == -1) = true := by simp [h2]
        have HE3 : Hid (me = zeroB n1 L1 n2 L2) := hid (by rw [HE2.out, decide_eq_true h2]; simp)
        clear h1 h2 HE2
        go_wp2_with fail
        clear x0 x1 x2 x3 x4
        generalize w.alloc (.cells #[.int .i64 k, .bool n1, .slice a1 L1 c1, .bool n2, .slice a2 L2 c2] 28) = W0 at *
        refine (rzero_any _ n1 a1 L1 c1 n2 a2 L2 c2 (by omega) (by omega)).mono ?_
        rintro e w1 ⟨rfl, hb⟩
        have HR := hid (below_call HW.out hb HW.out.size)
        clear hb
        generalize zeroB n1 L1 n2 L2 = zb at *
        go_wp2
        go_ret
        exact ⟨ret_bool HE3.out.symm, HR.out⟩
      · have hk2 : (k == -1) = false := by simp [h2]
        have HE3 : Hid (me = false) := hid (by rw [HE2.out, decide_eq_false h1, decide_eq_false h2]; rfl)
        clear h1 h2 HE2
        go_wp2
        go_ret
        exact ⟨ret_bool HE3.out.symm, HW.out⟩

set_option maxHeartbeats 1600000 in
theorem extMay_any (w : World) (k : Int) (n1 : Bool) (a1 : Option Addr) (c1 : Nat) (l1 : List Nat) (n2 : Bool) (a2 : Option Addr) (c2 : Nat) (l2 : List Nat) (h1 : SlAt w a1 c1 l1) (h2 : SlAt w a2 c2 l2) (q1 : l1.length ≤ 100000) (q2 : l2.length ≤ 100000) :
    Calls Tryz.prog 11 #[.agg #[.int .i64 k, .bool n1, .slice a1 l1.length c1, .bool n2, .slice a2 l2.length c2]] w fun e w' => e = .returned (.bool (mayE k n1 l1 n2 l2)) ∧ Below w.heap.size w w' := by
  have HM : Hid (∀ W, Below w.heap.size w W → Calls Tryz.prog 40 #[.agg #[.bool n1, .slice a1 l1.length c1, .bool n2, .slice a2 l2.length c2]] W fun e w' => e = .returned (.bool (ratMayB n1 l1 n2 l2)) ∧ Below W.heap.size W w') := hid (fun W hW => ratMay_any W n1 n2 _ _ l1 l2 ⟨_, _, rfl, h1.below hW⟩ ⟨_, _, rfl, h2.below hW⟩ (by omega) (by omega))
  have HE : Hid (mayE k n1 l1 n2 l2 = if k = 0 then ratMayB n1 l1 n2 l2 else endB k n1 l1.length n2 l2.length) := hid rfl
  generalize mayE k n1 l1 n2 l2 = me at *
  generalize ratMayB n1 l1 n2 l2 = mb at *
  generalize l1.length = L1 at *
  generalize l2.length = L2 at *
  clear h1 h2
  have hW0 : Below w.heap.size w (w.alloc (.cells #[.int .i64 k, .bool n1, .slice a1 L1 c1, .bool n2, .slice a2 L2 c2] 28)) := (by repeat (first | exact Below.refl _ _ | refine Below.alloc ?_ ?_ _ | refine Below.setCell ?_ ?_ _ | refine Below.drew ?_ | refine below_drewN ?_ _ | (· simp) | omega | (· simp; omega) | exact Below.size (by assumption) | assumption | refine below_call ?_ (by assumption) ?_))
  have bA : Box5 (w.alloc (.cells #[.int .i64 k, .bool n1, .slice a1 L1 c1, .bool n2, .slice a2 L2 c2] 28)) w.heap.size (.int .i64 k) (.bool n1) (.slice a1 L1 c1) (.bool n2) (.slice a2 L2 c2) := Box5.new _ _ _ _ _ _ _ rfl
  have HW := hid hW0
  clear hW0
  go_enter Tryz.func11, Tryz.ntmps11
  obtain ⟨x0, x1, x2, x3, x4⟩ := bA.c
  by_cases h0 : k = 0
  · have hkb : (k == 0) = true := by simp [h0]
    have HR0 : Hid (me = mb) := hid (by rw [HE.out, if_pos h0])
    clear h0 HE
    go_wp2_with fail
    clear x0 x1 x2 x3 x4
    generalize w.alloc (.cells #[.int .i64 k, .bool n1, .slice a1 L1 c1, .bool n2, .slice a2 L2 c2] 28) = W0 at *
    refine (HM.out _ HW.out).mono ?_
    rintro e w1 ⟨rfl, hb⟩
    have HR := hid (below_call HW.out hb HW.out.size)
    clear hb
    go_wp2
    go_ret
    exact ⟨ret_bool HR0.out.symm, HR.out⟩
  · have hkb : (k == 0) = false := by simp [h0]
    have HR0 : Hid (me = endB k n1 L1 n2 L2) := hid (by rw [HE.out, if_neg h0])
    clear h0 HE HM
    go_wp2_with fail
    clear x0 x1 x2 x3 x4
    generalize w.alloc (.cells #[.int .i64 k, .bool n1, .slice a1 L1 c1, .bool n2, .slice a2 L2 c2] 28) = W0 at *
    refine (isEnd_any _ k n1 a1 L1 c1 n2 a2 L2 c2 (by omega) (by omega)).mono ?_
    rintro e w1 ⟨rfl, hb⟩
    have HR := hid (below_call HW.out hb HW.out.size)
    clear hb
    generalize endB k n1 L1 n2 L2 = eb at *
    go_wp2
    go_ret
    exact ⟨ret_bool HR0.out.symm, HR.out⟩

/-- What the document tells as what one counts as. -/
def EWk (w : World) (n : Nat) (m1 : Bool) (p1 : Option Addr) (j1 d1 : Nat) (m2 : Bool) (p2 : Option Addr) (j2 d2 : Nat) : EX → Prop
  | .q r => RIs w 0 (.agg #[.bool m1, .slice p1 j1 d1, .bool m2, .slice p2 j2 d2]) n r
  | _ => m1 = false ∧ j1 = 0 ∧ SlAt w p1 d1 [] ∧ m2 = false ∧ j2 = 0 ∧ SlAt w p2 d2 []
section
variable {w w' : World} {n n' : Nat} {m1 m2 : Bool} {p1 p2 : Option Addr} {j1 d1 j2 d2 : Nat} {x : EX}
theorem EWk.below (h : EWk w n m1 p1 j1 d1 m2 p2 j2 d2 x) (hb : Below w.heap.size w w') : EWk w' n m1 p1 j1 d1 m2 p2 j2 d2 x := by
  cases x
  · obtain ⟨e1, e2, e3, e4, e5, e6⟩ := h; exact ⟨e1, e2, e3.below hb, e4, e5, e6.below hb⟩
  · exact RIs.below h hb
  · obtain ⟨e1, e2, e3, e4, e5, e6⟩ := h; exact ⟨e1, e2, e3.below hb, e4, e5, e6.below hb⟩
theorem EWk.mono (h : EWk w n m1 p1 j1 d1 m2 p2 j2 d2 x) (hn : n ≤ n') : EWk w n' m1 p1 j1 d1 m2 p2 j2 d2 x := by
  cases x
  · exact h
  · exact RIs.mono h (Nat.le_refl _) hn
  · exact h
theorem EWk.off5 {W W' : World} {g k1 e1 k2 e2 : Nat} {z : Int} {a1 a2 : Option Addr} {b1 b2 : Bool} (h : EWk W n m1 p1 j1 d1 m2 p2 j2 d2 x) (hg : Box5 W g (.int .i64 z) (.bool b1) (.slice a1 k1 e1) (.bool b2) (.slice a2 k2 e2)) (hW : W.grownBy W' (some g)) : EWk W' n m1 p1 j1 d1 m2 p2 j2 d2 x := by
  cases x
  · obtain ⟨q1, q2, q3, q4, q5, q6⟩ := h; exact ⟨q1, q2, q3.off5 hg hW, q4, q5, q6.off5 hg hW⟩
  · exact RIs.off5 h hg hW
  · obtain ⟨q1, q2, q3, q4, q5, q6⟩ := h; exact ⟨q1, q2, q3.off5 hg hW, q4, q5, q6.off5 hg hW⟩
theorem EIs.wk (h : EIs w n m1 p1 j1 d1 m2 p2 j2 d2 x) : EWk w n m1 p1 j1 d1 m2 p2 j2 d2 x := by
  cases x
  · obtain ⟨rfl, rfl, rfl, rfl, rfl, rfl, rfl, rfl⟩ := h; exact ⟨rfl, rfl, slat_zero w, rfl, rfl, slat_zero w⟩
  · exact h
  · obtain ⟨rfl, rfl, rfl, rfl, rfl, rfl, rfl, rfl⟩ := h; exact ⟨rfl, rfl, slat_zero w, rfl, rfl, slat_zero w⟩
/-- It may be handed on, and means the same. -/
theorem EWk.arg (h : EWk w n m1 p1 j1 d1 m2 p2 j2 d2 x) : EArg w (.agg #[.int .i64 (eK x), .bool m1, .slice p1 j1 d1, .bool m2, .slice p2 j2 d2]) n x := by
  cases x
  · obtain ⟨rfl, rfl, s1, rfl, rfl, s2⟩ := h
    exact ⟨-1, false, p1, d1, [], false, p2, d2, [], rfl, s1, s2, by simp, by simp, by simp [extMean, endB, zeroB]⟩
  · exact ECnt.arg (x := .q _) (RIs.arg h)
  · obtain ⟨rfl, rfl, s1, rfl, rfl, s2⟩ := h
    exact ⟨1, false, p1, d1, [], false, p2, d2, [], rfl, s1, s2, by simp, by simp, by simp [extMean, endB, zeroB]⟩
end
def ENorm (n : Nat) (x : EX) (w : World) (e : Ending) (w' : World) : Prop :=
  ∃ m1 p1 j1 d1 m2 p2 j2 d2, e = .returned (.agg #[.int .i64 (eK x), .bool m1, .slice p1 j1 d1, .bool m2, .slice p2 j2 d2]) ∧ EWk w' n m1 p1 j1 d1 m2 p2 j2 d2 x ∧ Below w.heap.size w w'

set_option maxHeartbeats 3200000 in
theorem rNormExt_any (w : World) (u : Value) (n : Nat) (x : EX) (h : EArg w u n x) (hn : n ≤ 100000) :
    Calls Tryz.prog 47 #[u] w (ENorm (n + 2) x w) := by
  obtain ⟨k, n1, a1, c1, l1, n2, a2, c2, l2, rfl, h1, h2, hl1, hl2, rfl⟩ := h
  have HM : Hid (∀ W, Below w.heap.size w W → Calls Tryz.prog 12 #[.agg #[.int .i64 k, .bool n1, .slice a1 l1.length c1, .bool n2, .slice a2 l2.length c2]] W fun e w' => e = .returned (.bool (mayE k n1 l1 n2 l2)) ∧ Below W.heap.size W w') := hid (fun W hW => rMayExt_any W k n1 a1 c1 l1 n2 a2 c2 l2 (h1.below hW) (h2.below hW) (by omega) (by omega))
  have HN : Hid (mayE k n1 l1 n2 l2 = false → extMean k n1 l1 n2 l2 = .q 0) := hid (fun hm => by
    unfold mayE at hm
    by_cases h0 : k = 0
    · rw [if_pos h0] at hm
      have hr : ratMean n1 l1 n2 l2 = 0 := ratMean_not (fun h => by rw [(form_may h).1] at hm; simp at hm)
      unfold extMean
      rw [if_neg (by subst h0; simp [endB]), if_pos h0, hr]
    · rw [if_neg h0] at hm
      unfold extMean
      rw [hm, if_neg (by simp), if_neg h0])
  have HQ : Hid (mayE k n1 l1 n2 l2 = true → k = 0 → extMean k n1 l1 n2 l2 = .q (ratMean n1 l1 n2 l2)) := hid (fun hm h0 => by
    unfold extMean
    rw [if_neg (by subst h0; simp [endB]), if_pos h0])
  have HEn : Hid (mayE k n1 l1 n2 l2 = true → k ≠ 0 → (extMean k n1 l1 n2 l2 = .lo ∧ k = -1 ∨ extMean k n1 l1 n2 l2 = .hi ∧ k = 1) ∧ n1 = false ∧ l1 = [] ∧ n2 = false ∧ l2 = []) := hid (fun hm h0 => by
    unfold mayE at hm
    rw [if_neg h0] at hm
    have hm2 := hm
    unfold endB zeroB at hm
    simp only [Bool.and_eq_true, Bool.or_eq_true, decide_eq_true_eq, Bool.not_eq_true'] at hm
    obtain ⟨hk, ⟨q1, q2⟩, q3, q4⟩ := hm
    refine ⟨?_, q1, List.eq_nil_of_length_eq_zero q2, q3, List.eq_nil_of_length_eq_zero q4⟩
    unfold extMean
    rw [if_pos hm2]
    rcases hk with rfl | rfl
    · exact .inl ⟨rfl, rfl⟩
    · exact .inr ⟨rfl, rfl⟩)
  have HR : Hid (RArg w (.agg #[.bool n1, .slice a1 l1.length c1, .bool n2, .slice a2 l2.length c2]) n (ratMean n1 l1 n2 l2)) := hid ⟨n1, _, l1, n2, _, l2, rfl, ⟨a1, c1, rfl, h1⟩, ⟨a2, c2, rfl, h2⟩, hl1, hl2, rfl⟩
  have HS1 : Hid (SlAt w a1 c1 l1) := hid h1
  have HS2 : Hid (SlAt w a2 c2 l2) := hid h2
  generalize mayE k n1 l1 n2 l2 = me at *
  generalize ratMean n1 l1 n2 l2 = r at *
  generalize extMean k n1 l1 n2 l2 = x at *
  obtain ⟨L1, hL1⟩ : ∃ L, l1.length = L := ⟨_, rfl⟩
  obtain ⟨L2, hL2⟩ : ∃ L, l2.length = L := ⟨_, rfl⟩
  have HL1 := hid hL1
  have HL2 := hid hL2
  rw [hL1, hL2] at HM HR ⊢
  clear h1 h2 hL1 hL2 hl1 hl2
  go_enter Tryz.func47, Tryz.ntmps47
  go_wp2_with fail
  have hW0 : Below w.heap.size w ((w.alloc (.cells #[.int .i64 k, .bool n1, .slice a1 L1 c1, .bool n2, .slice a2 L2 c2] 28)).alloc (.cells #[.int .i64 0, .bool false, .slice none 0 0, .bool false, .slice none 0 0] 28)) := (by repeat (first | exact Below.refl _ _ | refine Below.alloc ?_ ?_ _ | refine Below.setCell ?_ ?_ _ | refine Below.drew ?_ | refine below_drewN ?_ _ | (· simp) | omega | (· simp; omega) | exact Below.size (by assumption) | assumption | refine below_call ?_ (by assumption) ?_))
  have bA : Box5 ((w.alloc (.cells #[.int .i64 k, .bool n1, .slice a1 L1 c1, .bool n2, .slice a2 L2 c2] 28)).alloc (.cells #[.int .i64 0, .bool false, .slice none 0 0, .bool false, .slice none 0 0] 28)) w.heap.size (.int .i64 k) (.bool n1) (.slice a1 L1 c1) (.bool n2) (.slice a2 L2 c2) := (Box5.new _ _ _ _ _ _ _ rfl).alloc _
  have bR : Box5 ((w.alloc (.cells #[.int .i64 k, .bool n1, .slice a1 L1 c1, .bool n2, .slice a2 L2 c2] 28)).alloc (.cells #[.int .i64 0, .bool false, .slice none 0 0, .bool false, .slice none 0 0] 28)) (w.heap.size + 1) (.int .i64 0) (.bool false) (.slice none 0 0) (.bool false) (.slice none 0 0) := Box5.new _ _ _ _ _ _ _ (by simp)
  generalize ((w.alloc (.cells #[.int .i64 k, .bool n1, .slice a1 L1 c1, .bool n2, .slice a2 L2 c2] 28)).alloc (.cells #[.int .i64 0, .bool false, .slice none 0 0, .bool false, .slice none 0 0] 28)) = W0 at *
  refine (HM.out _ hW0).mono ?_
  rintro e w1 ⟨rfl, hb1⟩
  have hW1 := below_call hW0 hb1 hW0.size
  replace bA := bA.keep hb1
  replace bR := bR.keep hb1
  clear hb1 hW0 HM
  cases me
  · have HX := hid (HN.out rfl)
    clear HN HQ HEn HS1 HS2 HR
    go_wp2_with fail
    refine (nought_any _).mono ?_
    rintro e w2 ⟨m1, b1, j1, d1, m2, b2, j2, d2, rfl, HI, hb2⟩
    have hW2 := below_call hW1 hb2 hW1.size
    replace bR := bR.keep hb2
    obtain ⟨r0, r1, r2, r3, r4⟩ := bR.c
    have rf := bR.f
    have lR := bR.lt
    have HB := hid (below_fill5 hW2 (show w.heap.size ≤ w.heap.size + 1 by omega) (.int .i64 0) (.bool m1) (.slice b1 j1 d1) (.bool m2) (.slice b2 j2 d2))
    have HF := hid (HI.off5 bR (grow5 w2 (w.heap.size + 1) (.int .i64 0) (.bool m1) (.slice b1 j1 d1) (.bool m2) (.slice b2 j2 d2)))
    clear bA bR hb2 HI hW1 hW2
    go_wp2
    refine bodyPost_ret (v := .agg #[.int .i64 0, .bool m1, .slice b1 j1 d1, .bool m2, .slice b2 j2 d2]) ?_ rfl ⟨m1, b1, j1, d1, m2, b2, j2, d2, by rw [HX.out]; rfl, by rw [HX.out]; exact HF.out.mono (Nat.le_refl _) (by omega), HB.out⟩
    simp [results, Tryz.results47, go_sem, r0, r1, r2, r3, r4]
  · by_cases h0 : k = 0
    · have HX := hid (HQ.out rfl h0)
      subst h0
      clear HN HQ HEn HS1 HS2
      obtain ⟨x0, x1, x2, x3, x4⟩ := bA.c
      have lA := bA.lt
      go_wp2_with fail
      refine (normRat_any _ _ n r (HR.out.below hW1) hn).mono ?_
      rintro e w2 ⟨m1, b1, j1, d1, m2, b2, j2, d2, rfl, HI, hb2⟩
      have hW2 := below_call hW1 hb2 hW1.size
      replace bR := bR.keep hb2
      clear x0 x1 x2 x3 x4 lA
      obtain ⟨r0, r1, r2, r3, r4⟩ := bR.c
      have rf := bR.f
      have lR := bR.lt
      have HB := hid (below_fill5 hW2 (show w.heap.size ≤ w.heap.size + 1 by omega) (.int .i64 0) (.bool m1) (.slice b1 j1 d1) (.bool m2) (.slice b2 j2 d2))
      have HF := hid (HI.off5 bR (grow5 w2 (w.heap.size + 1) (.int .i64 0) (.bool m1) (.slice b1 j1 d1) (.bool m2) (.slice b2 j2 d2)))
      clear bA bR hb2 HI hW1 hW2 HR
      go_wp2
      refine bodyPost_ret (v := .agg #[.int .i64 0, .bool m1, .slice b1 j1 d1, .bool m2, .slice b2 j2 d2]) ?_ rfl ⟨m1, b1, j1, d1, m2, b2, j2, d2, by rw [HX.out]; rfl, by rw [HX.out]; exact HF.out, HB.out⟩
      simp [results, Tryz.results47, go_sem, r0, r1, r2, r3, r4]
    · obtain ⟨hx, rfl, hl1, rfl, hl2⟩ := HEn.out rfl h0
      have hkb : (k != 0) = true := by simp [h0]
      have HXK : Hid (eK x = k) := hid (by rcases hx with ⟨rfl, rfl⟩ | ⟨rfl, rfl⟩ <;> rfl)
      have HXE : Hid (x = .lo ∨ x = .hi) := hid (by rcases hx with ⟨h, _⟩ | ⟨h, _⟩; exact .inl h; exact .inr h)
      obtain rfl : L1 = 0 := by rw [← HL1.out, hl1]; rfl
      obtain rfl : L2 = 0 := by rw [← HL2.out, hl2]; rfl
      rw [hl1] at HS1
      rw [hl2] at HS2
      have HB := hid (below_fill5 hW1 (show w.heap.size ≤ w.heap.size + 1 by omega) (.int .i64 k) (.bool false) (.slice a1 0 c1) (.bool false) (.slice a2 0 c2))
      have G1 := hid ((HS1.out.below hW1).off5 bR (grow5 w1 (w.heap.size + 1) (.int .i64 k) (.bool false) (.slice a1 0 c1) (.bool false) (.slice a2 0 c2)))
      have G2 := hid ((HS2.out.below hW1).off5 bR (grow5 w1 (w.heap.size + 1) (.int .i64 k) (.bool false) (.slice a1 0 c1) (.bool false) (.slice a2 0 c2)))
      clear HN HQ HEn hx h0 hl1 hl2 HR HL1 HL2 HS1 HS2
      obtain ⟨x0, x1, x2, x3, x4⟩ := bA.c
      have lA := bA.lt
      obtain ⟨r0, r1, r2, r3, r4⟩ := bR.c
      have rf := bR.f
      have lR := bR.lt
      clear bA bR hW1
      go_wp2
      refine bodyPost_ret (v := .agg #[.int .i64 k, .bool false, .slice a1 0 c1, .bool false, .slice a2 0 c2]) ?_ rfl ⟨false, a1, 0, c1, false, a2, 0, c2, by rw [HXK.out], ?_, HB.out⟩
      · simp [results, Tryz.results47, go_sem, r0, r1, r2, r3, r4]
      · rcases HXE.out with h | h
        · rw [h]; exact ⟨rfl, rfl, G1.out, rfl, rfl, G2.out⟩
        · rw [h]; exact ⟨rfl, rfl, G1.out, rfl, rfl, G2.out⟩

end Go.Proofs.YtmnlggmdomcajaaGreat
