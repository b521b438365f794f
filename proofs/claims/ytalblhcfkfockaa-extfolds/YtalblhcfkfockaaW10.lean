/-
  Walks: the document's examples.
-/
import Derived.Test.YtalblhcfkfockaaW9
namespace Go.Proofs.Ytalblhcfkfockaa
open Go.RowKit Lm
set_option linter.unusedSimpArgs false
set_option linter.unusedVariables false
set_option maxRecDepth 100000

theorem text_m3 : str (textOf (-3)) = ⟨#[45, 51]⟩ := by
  have h : decs 3 = [51] := (decs_eq (l := [51]) (by intro c hc; simp at hc; omega) (by simp) (by simp [decv])).symm
  have e : textOf (-3) = [45, 51] := by
    unfold textOf
    rw [if_neg (by omega), if_pos (by omega), show (-3 : Int).natAbs = 3 from rfl, h]
    rfl
  rw [e]; rfl
theorem text_m1 : str (textOf (-1)) = ⟨#[45, 49]⟩ := by
  have h : decs 1 = [49] := (decs_eq (l := [49]) (by intro c hc; simp at hc; omega) (by simp) (by simp [decv])).symm
  have e : textOf (-1) = [45, 49] := by
    unfold textOf
    rw [if_neg (by omega), if_pos (by omega), show (-1 : Int).natAbs = 1 from rfl, h]
    rfl
  rw [e]; rfl
theorem text_64 : str (textOf 18446744073709551616) = ⟨#[49, 56, 52, 52, 54, 55, 52, 52, 48, 55, 51, 55, 48, 57, 53, 53, 49, 54, 49, 54]⟩ := by
  have h : decs 18446744073709551616 = [54, 49, 54, 49, 53, 53, 57, 48, 55, 51, 55, 48, 52, 52, 55, 54, 52, 52, 56, 49] :=
    (decs_eq (by intro c hc; simp at hc; omega) (by simp) (by simp [decv])).symm
  have e : textOf 18446744073709551616 = [49, 56, 52, 52, 54, 55, 52, 52, 48, 55, 51, 55, 48, 57, 53, 53, 49, 54, 49, 54] := by
    unfold textOf
    rw [if_neg (by omega), if_neg (by omega), show (18446744073709551616 : Int).natAbs = 18446744073709551616 from rfl, h]
    rfl
  rw [e]; rfl

theorem arg_001 (W : World) : Arg (W.alloc (.cells #[.int .u32 0, .int .u32 0, .int .u32 1] 73)) (.agg #[.bool false, .slice (some ⟨W.heap.size, 0, none⟩) 3 3]) 3 18446744073709551616 := by
  have h : RowAt (W.alloc (.cells #[.int .u32 0, .int .u32 0, .int .u32 1] 73)) W.heap.size [0, 0, 1] := by
    unfold RowAt
    rw [heap_alloc_new]
    simp [U]
  refine ⟨false, _, [0, 0, 1], rfl, ⟨_, 3, rfl, h.whole (by intro x hx; simp at hx; omega) (by simp)⟩, by simp, ?_⟩
  simp [mean, mayB, sgn, val]

end Go.Proofs.Ytalblhcfkfockaa
