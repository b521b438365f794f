/-
  Walks: the document's text of a quotient.
-/
import Derived.Test.YtogdchddmjokmaaGreatDoorK7
import Derived.Test.YtogdchddmjokmaaGreatDoorT2
import Derived.Test.YtogdchddmjokmaaGreatDoorEA
namespace Go.Proofs.YtogdchddmjokmaaGreatDoor
open Go.RowKit Lm
set_option linter.unusedSimpArgs false
set_option linter.unusedVariables false
set_option maxRecDepth 100000

section
variable {U W : World} {KA KI : List (Value × Nat × Int)} {KR KS : List (Value × Nat × Rat)} {u : Value} {n : Nat} {x : Int}
theorem re_rtext (E : RE U W KA KI KR KS) (hu : (u, n, x) ∈ KA) (hn : n ≤ 40000) : Calls Tryz.prog 24 #[u] W fun e w' => e = .returned (.string (str (textOf x))) ∧ RE U w' KA KI KR KS := by
  refine (rtext_num W u n x (E.a _ hu) (by omega)).mono ?_
  rintro e w' ⟨rfl, hb⟩
  exact ⟨rfl, E.step hb⟩
end

set_option maxHeartbeats 6400000 in
theorem rTextRat_any (w : World) (u : Value) (n : Nat) (r : Rat) (hu : RArg w u n r) (hn : n ≤ 30000) :
    Calls Tryz.prog 9 #[u] w fun e w' => e = .returned (.string (textR r)) ∧ Below w.heap.size w w' := by
  have HX := hid hu
  obtain ⟨n1, a1, k1, c1, n2, a2, k2, c2, rfl⟩ := hu.shape
  clear hu
  have hW0 : Below w.heap.size w (w.alloc (.cells #[.bool n1, .slice a1 k1 c1, .bool n2, .slice a2 k2 c2] 26)) := (by repeat (first | exact Below.refl _ _ | refine Below.alloc ?_ ?_ _ | refine Below.setCell ?_ ?_ _ | refine Below.drew ?_ | refine below_drewN ?_ _ | (· simp) | omega | (· simp; omega) | exact Below.size (by assumption) | assumption | refine below_call ?_ (by assumption) ?_))
  have bA : Box4 (w.alloc (.cells #[.bool n1, .slice a1 k1 c1, .bool n2, .slice a2 k2 c2] 26)) w.heap.size (.bool n1) (.slice a1 k1 c1) (.bool n2) (.slice a2 k2 c2) := Box4.new _ _ _ _ _ _ rfl
  go_enter Tryz.func9, Tryz.ntmps9
  obtain ⟨y0, y1, y2, y3⟩ := bA.c
  go_wp2_with fail
  clear y0 y1 y2 y3
  generalize (w.alloc (.cells #[.bool n1, .slice a1 k1 c1, .bool n2, .slice a2 k2 c2] 26)) = W0 at *
  refine (normRat_any _ _ n r (HX.out.below hW0) (by omega)).mono ?_
  rintro e w1 ⟨m1, p1, j1, d1, m2, p2, j2, d2, rfl, hI, hb1⟩
  have hW1 := below_call hW0 hb1 hW0.size
  replace bA := bA.keep hb1
  obtain ⟨i1, i2⟩ : Is w1 0 (.agg #[.bool m1, .slice p1 j1 d1]) (n + 2) r.num ∧ Is w1 0 (.agg #[.bool m2, .slice p2 j2 d2]) (n + 2) (r.den : Int) := by
    obtain ⟨q1, q2, q3, q4, q5, q6, q7, q8, e, g1, g2⟩ := hI
    simp only [Value.agg.injEq, Array.mk.injEq, List.cons.injEq, Value.bool.injEq, Value.slice.injEq, and_true] at e
    obtain ⟨rfl, ⟨rfl, rfl, rfl⟩, rfl, rfl, rfl, rfl⟩ := e
    exact ⟨g1, g2⟩
  have E0 := (((RE.none w1).knowI i2).knowI i1)
  have E := hid (E0.refill bA (.bool m1) (.slice p1 j1 d1) (.bool m2) (.slice p2 j2 d2))
  have hW2 := hid (below_fill4 hW1 (show w.heap.size ≤ w.heap.size by omega) (.bool m1) (.slice p1 j1 d1) (.bool m2) (.slice p2 j2 d2))
  have bA2 := hid (bA.filled (.bool m1) (.slice p1 j1 d1) (.bool m2) (.slice p2 j2 d2))
  have HS1 := hid (text_bound i1.arg (by omega))
  have HS2 := hid (text_bound i2.arg (by omega))
  obtain ⟨y0, y1, y2, y3⟩ := bA.c
  have yf := bA.f
  have lA := bA.lt
  clear E0 hW1 hW0 hb1 HX hI i1 i2
  go_wp2_with fail
  clear y0 y1 y2 y3 yf lA bA
  rw [fill4_eq]
  generalize fill4 w1 w.heap.size (.bool m1) (.slice p1 j1 d1) (.bool m2) (.slice p2 j2 d2) = W1 at *
  have E3 := E.out.rebase.drew
  have bA3 := bA2.out
  obtain ⟨bb, hbb⟩ : ∃ bb, decide ((r.den : Int) = 1) = bb := ⟨_, rfl⟩
  have HBB := hid hbb
  clear E bA2 hbb
  go_region_held3 (fun W' => W'.cell? ⟨w.heap.size, 0, none⟩ = some (.bool m1) ∧ W'.cell? ⟨w.heap.size, 1, none⟩ = some (.slice p1 j1 d1) ∧ W'.cell? ⟨w.heap.size, 2, none⟩ = some (.bool m2) ∧ W'.cell? ⟨w.heap.size, 3, none⟩ = some (.slice p2 j2 d2)) (exact (bA3.keep E3.bl).c) (first
    | (go_at_call 13; go_must (refine (re_rof E3 1 (by omega) (by omega)).mono ?_); rintro e wn ⟨nn, an, kn, cn, rfl, En⟩; clear E3; have E3 := En; clear En)
    | (go_at_call 14; go_must (refine (re_same E3 (.tail _ (.tail _ (.head _))) (.head _)).mono ?_); rintro e wn ⟨rfl, En⟩; rw [HBB.out]; clear E3; have E3 := En; clear En))
  have hW3 := below_call hW2.out E3.bl hW2.out.size
  replace bA3 := bA3.keep E3.bl
  replace E3 := E3.rebase
  clear hW2
  obtain ⟨y0, y1, y2, y3⟩ := bA3.c
  cases bb
  · have HT : Hid (textR r = str (textOf r.num) ++ ⟨#[47]⟩ ++ str (textOf r.den)) := hid (by unfold textR; rw [if_neg (of_decide_eq_false HBB.out)])
    replace E3 := E3.drew
    have hs1 : ¬ 9223372036854775807 < (str (textOf r.num)).size + 1 := by have := HS1.out; omega
    have hs2 : ¬ 9223372036854775807 < (str (textOf r.num)).size + 1 + (str (textOf (r.den : Int))).size := by have := HS1.out; have := HS2.out; omega
    go_wp2_with fail
    clear y0 y1 y2 y3
    go_region_held3 (fun W' => W'.cell? ⟨w.heap.size, 0, none⟩ = some (.bool m1) ∧ W'.cell? ⟨w.heap.size, 1, none⟩ = some (.slice p1 j1 d1) ∧ W'.cell? ⟨w.heap.size, 2, none⟩ = some (.bool m2) ∧ W'.cell? ⟨w.heap.size, 3, none⟩ = some (.slice p2 j2 d2)) (exact (bA3.keep E3.bl).c) (first
      | (go_at_call 24; go_must (refine (re_rtext E3 (by first | exact .tail _ (.head _) | exact .tail _ (.tail _ (.head _))) (by omega)).mono ?_); rintro e wn ⟨rfl, En⟩; clear E3; have E3 := En; clear En))
    have HB := hid (below_call hW3 E3.bl hW3.size)
    clear E3 bA3
    go_wp2
    go_ret
    exact ⟨ret_text HT.out.symm, HB.out⟩
  · have HT : Hid (textR r = str (textOf r.num)) := hid (by unfold textR; rw [if_pos (of_decide_eq_true HBB.out)])
    go_wp2_with fail
    refine (re_rtext E3 (.tail _ (.head _)) (by omega)).mono ?_
    rintro e w4 ⟨rfl, E4⟩
    have HB := hid (below_call hW3 E4.bl hW3.size)
    clear E3 E4 bA3 y0 y1 y2 y3
    go_wp2
    go_ret
    exact ⟨ret_text HT.out.symm, HB.out⟩

end Go.Proofs.YtogdchddmjokmaaGreatDoor
