/-
  Walks: sums of two signs; Add, Sub, Mul, Neg, Cmp.
-/
import Derived.Test.YtalblhcfkfockaaW15
namespace Go.Proofs.Ytalblhcfkfockaa
open Go.RowKit Lm
set_option linter.unusedSimpArgs false
set_option linter.unusedVariables false
set_option maxRecDepth 100000

theorem len_le_of_val {A B : List Nat} (ha : ok A) (cb : canon B) (h : val B ≤ val A) : B.length ≤ A.length := by
  rcases Nat.lt_or_ge A.length B.length with h1 | h1
  · have := val_len_lt ha cb h1; omega
  · exact h1

set_option maxHeartbeats 3200000 in
theorem addSigned_any (w : World) (na : Bool) (ao : Option Addr) (ca : Nat) (A : List Nat) (nb : Bool) (bo : Option Addr) (cb : Nat) (B : List Nat) (ha : SlAt w ao ca A) (hb : SlAt w bo cb B) (hca : canon A) (hcb : canon B) (hN : A.length ≤ 1000000) (hM : B.length ≤ 1000000) :
    Calls Try.prog 108 #[.bool na, .slice ao A.length ca, .bool nb, .slice bo B.length cb] w (Told w.heap.size (A.length + B.length + 1) (sgn na (val A) + sgn nb (val B)) w) := by
  by_cases hn : na = nb
  · subst hn
    have hnn : (na == na) = true := by simp
    have HZ : Hid (sgn na (val A) + sgn na (val B) = sgn na (val A + val B)) := hid (by cases na <;> simp [sgn] <;> omega)
    go_enter Try.func108, Try.ntmps108
    go_wp2_with fail
    refine (addLimbs_any _ ao ca A bo cb B (by exact ha.below (by repeat (first | exact Below.refl _ _ | refine Below.alloc ?_ ?_ _ | refine Below.setCell ?_ ?_ _ | refine Below.drew ?_ | refine below_drewN ?_ _ | (· simp) | omega | (· simp; omega) | exact Below.size (by assumption) | assumption | refine below_call ?_ (by assumption) ?_))) (by exact hb.below (by repeat (first | exact Below.refl _ _ | refine Below.alloc ?_ ?_ _ | refine Below.setCell ?_ ?_ _ | refine Below.drew ?_ | refine below_drewN ?_ _ | (· simp) | omega | (· simp; omega) | exact Below.size (by assumption) | assumption | refine below_call ?_ (by assumption) ?_))) hN hM).mono ?_
    rintro e w2 ⟨g, cap, k, l, rfl, HK, hs, hg, hl, hv, hb2⟩
    have bx0 := (Box.new w (.bool false) (.slice none 0 0) w.heap.size rfl).keep hb2
    have hW2 : Below w.heap.size w w2 := (by repeat (first | exact Below.refl _ _ | refine Below.alloc ?_ ?_ _ | refine Below.setCell ?_ ?_ _ | refine Below.drew ?_ | refine below_drewN ?_ _ | (· simp) | omega | (· simp; omega) | exact Below.size (by assumption) | assumption | refine below_call ?_ (by assumption) ?_))
    have hz2 := hb2.size
    simp at hz2 hg
    have HV := hid hv
    clear hv hb2
    go_wp2_with fail
    refine (made_k _ (w.heap.size + 1) _ _ cap k l HK.out hs (from_row _ _ _ hg)).mono ?_
    rw [HV.out]
    rintro e w5 ⟨nr, ar, kr, cr, rfl, HI, hb5⟩
    have hW5 := below_call hW2 hb5 (by omega)
    have bx := bx0.keep hb5
    have x0 := bx.c0
    have x1 := bx.c1
    have xf := bx.f
    clear bx hb5
    go_wp2
    refine bodyPost_ret (v := .agg #[.bool nr, .slice ar kr cr]) ?_ rfl ⟨nr, ar, kr, cr, rfl, ?_, (by repeat (first | exact Below.refl _ _ | refine Below.alloc ?_ ?_ _ | refine Below.setCell ?_ ?_ _ | refine Below.drew ?_ | refine below_drewN ?_ _ | (· simp) | omega | (· simp; omega) | exact Below.size (by assumption) | assumption | refine below_call ?_ (by assumption) ?_))⟩
    · simp [results, Try.results108, go_sem, x0, x1]
    · rw [HZ.out]
      exact ((HI.out.setCell (by simp) _).setCell (by simp) _).mono (by omega) (by omega)
  · have HZ0 : Hid (sgn na (val A) + sgn nb (val B) = if val A < val B then sgn nb (val B - val A) else sgn na (val A - val B)) := hid (by
      by_cases h : val A < val B
      · rw [if_pos h]; cases na <;> cases nb <;> simp [sgn] at hn ⊢ <;> omega
      · rw [if_neg h]; cases na <;> cases nb <;> simp [sgn] at hn ⊢ <;> omega)
    have hnn : (na == nb) = false := by simpa using hn
    by_cases hv0 : val A < val B
    · have HZ : Hid (sgn na (val A) + sgn nb (val B) = sgn nb (val B - val A)) := hid (by rw [HZ0.out, if_pos hv0])
      have HV0 := hid hv0
      have HC := hid (cmpI_lt (show (val A : Int) < (val B : Int) by omega))
      clear hv0 HZ0 hn
      go_enter Try.func108, Try.ntmps108
      go_wp2_with fail
      refine (cmpLimbs_any _ ao ca A bo cb B (by exact ha.below (by repeat (first | exact Below.refl _ _ | refine Below.alloc ?_ ?_ _ | refine Below.setCell ?_ ?_ _ | refine Below.drew ?_ | refine below_drewN ?_ _ | (· simp) | omega | (· simp; omega) | exact Below.size (by assumption) | assumption | refine below_call ?_ (by assumption) ?_))) (by exact hb.below (by repeat (first | exact Below.refl _ _ | refine Below.alloc ?_ ?_ _ | refine Below.setCell ?_ ?_ _ | refine Below.drew ?_ | refine below_drewN ?_ _ | (· simp) | omega | (· simp; omega) | exact Below.size (by assumption) | assumption | refine below_call ?_ (by assumption) ?_))) hca hcb).mono ?_
      rintro e w1 ⟨rfl, hb1⟩
      rw [HC.out]
      have bx1 := (Box.new w (.bool false) (.slice none 0 0) w.heap.size rfl).keep hb1
      have hW1 : Below w.heap.size w w1 := (by repeat (first | exact Below.refl _ _ | refine Below.alloc ?_ ?_ _ | refine Below.setCell ?_ ?_ _ | refine Below.drew ?_ | refine below_drewN ?_ _ | (· simp) | omega | (· simp; omega) | exact Below.size (by assumption) | assumption | refine below_call ?_ (by assumption) ?_))
      have hz1 := hb1.size
      simp at hz1
      clear hb1
      go_wp2_with fail
      refine (subLimbs_any _ bo cb B ao ca A (by exact hb.below hW1) (by exact ha.below hW1) hM (len_le_of_val hb.1 hca (by have := HV0.out; omega)) (by have := HV0.out; omega)).mono ?_
      rintro e w2 ⟨g, cap, k, l, rfl, HK, hs, hg, hl, hv, hb2⟩
      have bx0 := bx1.keep hb2
      have hz2 := hb2.size
      have hW2 := below_call hW1 hb2 (by omega)
      have HV := hid hv
      have hg' : w.heap.size + 1 ≤ g := by omega
      clear hv hb2 bx1 hW1
      go_wp2_with fail
      refine (made_k _ (w.heap.size + 1) _ _ cap k l HK.out hs (from_row _ _ _ hg')).mono ?_
      rw [HV.out]
      rintro e w5 ⟨nr, ar, kr, cr, rfl, HI, hb5⟩
      have hW5 := below_call hW2 hb5 (by omega)
      have bx := bx0.keep hb5
      have x0 := bx.c0
      have x1 := bx.c1
      have xf := bx.f
      clear bx hb5
      go_wp2
      refine bodyPost_ret (v := .agg #[.bool nr, .slice ar kr cr]) ?_ rfl ⟨nr, ar, kr, cr, rfl, ?_, (by repeat (first | exact Below.refl _ _ | refine Below.alloc ?_ ?_ _ | refine Below.setCell ?_ ?_ _ | refine Below.drew ?_ | refine below_drewN ?_ _ | (· simp) | omega | (· simp; omega) | exact Below.size (by assumption) | assumption | refine below_call ?_ (by assumption) ?_))⟩
      · simp [results, Try.results108, go_sem, x0, x1]
      · rw [HZ.out]
        exact ((HI.out.setCell (by simp) _).setCell (by simp) _).mono (by omega) (by omega)
    · have HZ : Hid (sgn na (val A) + sgn nb (val B) = sgn na (val A - val B)) := hid (by rw [HZ0.out, if_neg hv0])
      have HV0 := hid hv0
      have hcp : 0 ≤ cmpI (val A : Int) (val B : Int) := by unfold cmpI; rw [if_neg (by omega)]; split <;> omega
      obtain ⟨q, hq⟩ : ∃ q, q = cmpI (val A : Int) (val B : Int) := ⟨_, rfl⟩
      rw [← hq] at hcp
      have HQ := hid hq
      clear hv0 HZ0 hn hq
      go_enter Try.func108, Try.ntmps108
      go_wp2_with fail
      refine (cmpLimbs_any _ ao ca A bo cb B (by exact ha.below (by repeat (first | exact Below.refl _ _ | refine Below.alloc ?_ ?_ _ | refine Below.setCell ?_ ?_ _ | refine Below.drew ?_ | refine below_drewN ?_ _ | (· simp) | omega | (· simp; omega) | exact Below.size (by assumption) | assumption | refine below_call ?_ (by assumption) ?_))) (by exact hb.below (by repeat (first | exact Below.refl _ _ | refine Below.alloc ?_ ?_ _ | refine Below.setCell ?_ ?_ _ | refine Below.drew ?_ | refine below_drewN ?_ _ | (· simp) | omega | (· simp; omega) | exact Below.size (by assumption) | assumption | refine below_call ?_ (by assumption) ?_))) hca hcb).mono ?_
      rintro e w1 ⟨rfl, hb1⟩
      rw [← HQ.out]
      have bx1 := (Box.new w (.bool false) (.slice none 0 0) w.heap.size rfl).keep hb1
      have hW1 : Below w.heap.size w w1 := (by repeat (first | exact Below.refl _ _ | refine Below.alloc ?_ ?_ _ | refine Below.setCell ?_ ?_ _ | refine Below.drew ?_ | refine below_drewN ?_ _ | (· simp) | omega | (· simp; omega) | exact Below.size (by assumption) | assumption | refine below_call ?_ (by assumption) ?_))
      have hz1 := hb1.size
      simp at hz1
      clear hb1
      go_wp2_with fail
      refine (subLimbs_any _ ao ca A bo cb B (by exact ha.below hW1) (by exact hb.below hW1) hN (len_le_of_val ha.1 hcb (by have := HV0.out; omega)) (by have := HV0.out; omega)).mono ?_
      rintro e w2 ⟨g, cap, k, l, rfl, HK, hs, hg, hl, hv, hb2⟩
      have bx0 := bx1.keep hb2
      have hz2 := hb2.size
      have hW2 := below_call hW1 hb2 (by omega)
      have HV := hid hv
      have hg' : w.heap.size + 1 ≤ g := by omega
      clear hv hb2 bx1 hW1
      go_wp2_with fail
      refine (made_k _ (w.heap.size + 1) _ _ cap k l HK.out hs (from_row _ _ _ hg')).mono ?_
      rw [HV.out]
      rintro e w5 ⟨nr, ar, kr, cr, rfl, HI, hb5⟩
      have hW5 := below_call hW2 hb5 (by omega)
      have bx := bx0.keep hb5
      have x0 := bx.c0
      have x1 := bx.c1
      have xf := bx.f
      clear bx hb5
      go_wp2
      refine bodyPost_ret (v := .agg #[.bool nr, .slice ar kr cr]) ?_ rfl ⟨nr, ar, kr, cr, rfl, ?_, (by repeat (first | exact Below.refl _ _ | refine Below.alloc ?_ ?_ _ | refine Below.setCell ?_ ?_ _ | refine Below.drew ?_ | refine below_drewN ?_ _ | (· simp) | omega | (· simp; omega) | exact Below.size (by assumption) | assumption | refine below_call ?_ (by assumption) ?_))⟩
      · simp [results, Try.results108, go_sem, x0, x1]
      · rw [HZ.out]
        exact ((HI.out.setCell (by simp) _).setCell (by simp) _).mono (by omega) (by omega)

/-- What Add, Sub, Mul have laid. -/
def Laid3 (w : World) (n1 : Bool) (s1 : Value) (n2 : Bool) (s2 : Value) : World :=
  ((w.alloc (.cells #[.bool n1, s1] 27)).alloc (.cells #[.bool n2, s2] 27)).alloc (.cells #[.bool false, .slice none 0 0] 27)
theorem laid3 (w : World) (n1 : Bool) (s1 : Value) (n2 : Bool) (s2 : Value) : (Laid3 w n1 s1 n2 s2).heap.size = w.heap.size + 3 ∧ Box (Laid3 w n1 s1 n2 s2) w.heap.size (.bool n1) s1 ∧ Box (Laid3 w n1 s1 n2 s2) (w.heap.size + 1) (.bool n2) s2 ∧
    (∀ b, w.heap.size + 1 < b → b < w.heap.size + 3 → Box (Laid3 w n1 s1 n2 s2) b (.bool false) (.slice none 0 0)) ∧ Below w.heap.size w (Laid3 w n1 s1 n2 s2) := by
  unfold Laid3
  refine ⟨by simp, ?_, ?_, fun b h1 h2 => ?_, (by repeat (first | exact Below.refl _ _ | refine Below.alloc ?_ ?_ _ | refine Below.setCell ?_ ?_ _ | refine Below.drew ?_ | refine below_drewN ?_ _ | (· simp) | omega | (· simp; omega) | exact Below.size (by assumption) | assumption | refine below_call ?_ (by assumption) ?_))⟩
  · exact ((Box.new w _ _ _ rfl).alloc _).alloc _
  · exact (Box.new _ _ _ _ (by simp)).alloc _
  · rcases (show b = w.heap.size + 2 by omega) with rfl
    exact Box.new _ _ _ _ (by simp)
/-- What Cmp has laid. -/
def Laid2 (w : World) (n1 : Bool) (s1 : Value) (n2 : Bool) (s2 : Value) : World :=
  (w.alloc (.cells #[.bool n1, s1] 27)).alloc (.cells #[.bool n2, s2] 27)
theorem laid2 (w : World) (n1 : Bool) (s1 : Value) (n2 : Bool) (s2 : Value) : (Laid2 w n1 s1 n2 s2).heap.size = w.heap.size + 2 ∧ Box (Laid2 w n1 s1 n2 s2) w.heap.size (.bool n1) s1 ∧ Box (Laid2 w n1 s1 n2 s2) (w.heap.size + 1) (.bool n2) s2 ∧
    (∀ b, w.heap.size + 1 < b → b < w.heap.size + 2 → Box (Laid2 w n1 s1 n2 s2) b (.bool false) (.slice none 0 0)) ∧ Below w.heap.size w (Laid2 w n1 s1 n2 s2) := by
  unfold Laid2
  refine ⟨by simp, ?_, ?_, fun b h1 h2 => by omega, (by repeat (first | exact Below.refl _ _ | refine Below.alloc ?_ ?_ _ | refine Below.setCell ?_ ?_ _ | refine Below.drew ?_ | refine below_drewN ?_ _ | (· simp) | omega | (· simp; omega) | exact Below.size (by assumption) | assumption | refine below_call ?_ (by assumption) ?_))⟩
  · exact (Box.new w _ _ _ rfl).alloc _
  · exact Box.new _ _ _ _ (by simp)

end Go.Proofs.Ytalblhcfkfockaa
