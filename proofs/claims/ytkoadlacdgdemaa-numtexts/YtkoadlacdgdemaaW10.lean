/-
  Walks: the document's examples.
-/
import Derived.Test.YtkoadlacdgdemaaW9
namespace Go.Proofs.Ytkoadlacdgdemaa
open Go.RowKit Lm
set_option linter.unusedSimpArgs false
set_option linter.unusedVariables false
set_option maxRecDepth 100000

theorem text_m3 : str (textOf (-3)) = ⟨#[45, 51]⟩ := by
  have h : decs 3 = [51] := (decs_eq (l := [51]) (by intro c hc; simp at hc; omega) (by simp) (by simp [decv])).symm
  have e : textOf (-3) = [45, 51] := by
    unfold textOf
    rw [if_neg (by omega), if_pos (by omega), show (-3 : Int).natAbs = 3 from rfl, h]
    rfl
  rw [e]; rfl
theorem text_m1 : str (textOf (-1)) = ⟨#[45, 49]⟩ := by
  have h : decs 1 = [49] := (decs_eq (l := [49]) (by intro c hc; simp at hc; omega) (by simp) (by simp [decv])).symm
  have e : textOf (-1) = [45, 49] := by
    unfold textOf
    rw [if_neg (by omega), if_pos (by omega), show (-1 : Int).natAbs = 1 from rfl, h]
    rfl
  rw [e]; rfl
theorem text_64 : str (textOf 18446744073709551616) = ⟨#[49, 56, 52, 52, 54, 55, 52, 52, 48, 55, 51, 55, 48, 57, 53, 53, 49, 54, 49, 54]⟩ := by
  have h : decs 18446744073709551616 = [54, 49, 54, 49, 53, 53, 57, 48, 55, 51, 55, 48, 52, 52, 55, 54, 52, 52, 56, 49] :=
    (decs_eq (by intro c hc; simp at hc; omega) (by simp) (by simp [decv])).symm
  have e : textOf 18446744073709551616 = [49, 56, 52, 52, 54, 55, 52, 52, 48, 55, 51, 55, 48, 57, 53, 53, 49, 54, 49, 54] := by
    unfold textOf
    rw [if_neg (by omega), if_neg (by omega), show (18446744073709551616 : Int).natAbs = 18446744073709551616 from rfl, h]
    rfl
  rw [e]; rfl

theorem arg_001 (W : World) : Arg (W.alloc (.cells #[.int .u32 0, .int .u32 0, .int .u32 1] 68)) (.agg #[.bool false, .slice (some ⟨W.heap.size, 0, none⟩) 3 3]) 3 18446744073709551616 := by
  have h : RowAt (W.alloc (.cells #[.int .u32 0, .int .u32 0, .int .u32 1] 68)) W.heap.size [0, 0, 1] := by
    unfold RowAt
    rw [heap_alloc_new]
    simp [U]
  refine ⟨false, _, [0, 0, 1], rfl, ⟨_, 3, rfl, h.whole (by intro x hx; simp at hx; omega) (by simp)⟩, by simp, ?_⟩
  simp [mean, mayB, sgn, val]

set_option maxHeartbeats 3200000 in
theorem awake_any (w : World) :
    Calls Try.prog 10 #[] w fun e w' => e = .returned (.bool true) ∧ Below w.heap.size w w' := by
  go_enter Try.func10, Try.ntmps10
  go_wp2_with fail
  refine (of_num _ (-7) (by omega) (by omega)).mono ?_
  rintro e w1 ⟨n1, a1, k1, c1, rfl, hI1, hb1⟩
  go_wp2_with fail
  refine (of_num _ 2 (by omega) (by omega)).mono ?_
  rintro e w2 ⟨n2, a2, k2, c2, rfl, hI2, hb2⟩
  go_wp2_with fail
  refine (div_num 1000000 1 divSaid_one _ _ _ 2 2 (-7) 2 (by exact (hI1.below hb2).arg) (by exact hI2.arg) (by omega) (by omega) (by simp [pw])).mono ?_
  rintro e w3 ⟨n3, a3, k3, c3, n4, a4, k4, c4, rfl, hI3, hI4, hb3⟩
  have hW : Below w.heap.size w w3 := below_call (below_call hb1 hb2 hb1.size) hb3 (Nat.le_trans hb1.size hb2.size)
  have H3 : Hid (Is w3 w2.heap.size (.agg #[.bool n3, .slice a3 k3 c3]) 2 (-3)) := hI3
  have H4 : Hid (Is w3 w2.heap.size (.agg #[.bool n4, .slice a4 k4 c4]) (2 + 2) (-1)) := hI4
  clear hI1 hI2 hb1 hb2 hb3 hI3 hI4
  go_wp2_with fail
  refine (num_any _ 0).mono ?_
  rintro e w4 ⟨rfl, rfl⟩
  go_wp2_with fail
  refine (text_num _ _ 2 (-3) (by exact H3.out.arg.below (by repeat (first | exact Below.refl _ _ | refine Below.alloc ?_ ?_ _ | refine Below.setCell ?_ ?_ _ | refine Below.drew ?_ | refine below_drewN ?_ _ | (· simp) | omega | (· simp; omega) | exact Below.size (by assumption) | assumption | refine below_call ?_ (by assumption) ?_))) (by omega)).mono ?_
  rintro e w5 ⟨rfl, hb5⟩
  rw [text_m3]
  obtain ⟨hc5, hf5⟩ := bcell hb5
  simp only [asize] at hc5 hf5
  go_wp2_with fail
  refine (text_num _ _ (2 + 2) (-1) (by exact H4.out.arg.below (by repeat (first | exact Below.refl _ _ | refine Below.alloc ?_ ?_ _ | refine Below.setCell ?_ ?_ _ | refine Below.drew ?_ | refine below_drewN ?_ _ | (· simp) | omega | (· simp; omega) | exact Below.size (by assumption) | assumption | refine below_call ?_ (by assumption) ?_))) (by omega)).mono ?_
  rintro e w6 ⟨rfl, hb6⟩
  rw [text_m1]
  go_wp2_with fail
  refine (text_num _ _ 3 18446744073709551616 (by exact arg_001 _) (by omega)).mono ?_
  rintro e w7 ⟨rfl, hb7⟩
  rw [text_64]
  have hs3 := hW.size
  have hs5 := hb5.size
  have hs6 := hb6.size
  simp only [asize] at hs5
  have hF : Below w.heap.size w w7 := below_call ((below_call (below_call ((hW.alloc hs3 _).alloc (by simp; omega) _) hb5 (by simp; omega)) hb6 (by omega)).alloc (by omega) _) hb7 (by simp; omega)
  clear hb7 hb6 hb5 hc5 hf5
  go_wp2
  go_ret
  exact ⟨rfl, hF⟩

end Go.Proofs.Ytkoadlacdgdemaa
