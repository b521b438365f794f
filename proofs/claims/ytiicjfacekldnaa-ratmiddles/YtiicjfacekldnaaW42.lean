/-
  Walks: Text of a quotient.
-/
import Derived.Test.YtiicjfacekldnaaW41
namespace Go.Proofs.Ytiicjfacekldnaa
open Go.RowKit Lm
set_option linter.unusedSimpArgs false
set_option linter.unusedVariables false
set_option maxRecDepth 100000

theorem ret_text {a b : ByteArray} (h : a = b) : Ending.returned (.string a) = .returned (.string b) := by rw [h]
/-- What a quotient is told as. -/
def textR (r : Rat) : ByteArray := if (r.den : Int) = 1 then str (textOf r.num) else str (textOf r.num) ++ ⟨#[47]⟩ ++ str (textOf r.den)
theorem text_bound {W : World} {v : Value} {n : Nat} {x : Int} (h : Arg W v n x) (hn : n ≤ 40000) : (str (textOf x)).size ≤ 500000 := by
  have h3 := arg_abs h
  have h4 := text_len h3
  rw [str_size]
  omega

set_option maxHeartbeats 3200000 in
theorem ratText_any (w : World) (u : Value) (n : Nat) (r : Rat) (hu : RArg w u n r) (hn : n ≤ 30000) :
    Calls Try.prog 82 #[u] w fun e w' => e = .returned (.string (textR r)) ∧ Below w.heap.size w w' := by
  have HX := hid hu
  obtain ⟨n1, a1, k1, c1, n2, a2, k2, c2, rfl⟩ := hu.shape
  clear hu
  go_enter Try.func82, Try.ntmps82
  go_wp2_with fail
  have hW0 : Below w.heap.size w (w.alloc (.cells #[.bool n1, .slice a1 k1 c1, .bool n2, .slice a2 k2 c2] 43)) := (by repeat (first | exact Below.refl _ _ | refine Below.alloc ?_ ?_ _ | refine Below.setCell ?_ ?_ _ | refine Below.drew ?_ | refine below_drewN ?_ _ | (· simp) | omega | (· simp; omega) | exact Below.size (by assumption) | assumption | refine below_call ?_ (by assumption) ?_))
  have bA : Box4 (w.alloc (.cells #[.bool n1, .slice a1 k1 c1, .bool n2, .slice a2 k2 c2] 43)) w.heap.size (.bool n1) (.slice a1 k1 c1) (.bool n2) (.slice a2 k2 c2) := Box4.new _ _ _ _ _ _ rfl
  generalize (w.alloc (.cells #[.bool n1, .slice a1 k1 c1, .bool n2, .slice a2 k2 c2] 43)) = W0 at *
  refine (ratCounted_any _ _ n r (HX.out.below hW0) (by omega)).mono ?_
  rintro e w1 ⟨m1, p1, j1, d1, m2, p2, j2, d2, rfl, C1, C2, hb1⟩
  have hW1 := below_call hW0 hb1 hW0.size
  have E0 : RE w1 w1 [(.agg #[.bool m1, .slice p1 j1 d1], n + 2, r.num), (.agg #[.bool m2, .slice p2 j2 d2], n + 2, (r.den : Int))] [] [] [] := ((RE.none w1).know C2).know C1
  replace bA := bA.keep hb1
  have E := hid (E0.refill bA (.bool m1) (.slice p1 j1 d1) (.bool m2) (.slice p2 j2 d2))
  have hW2 := hid (below_fill4 hW1 (show w.heap.size ≤ w.heap.size by omega) (.bool m1) (.slice p1 j1 d1) (.bool m2) (.slice p2 j2 d2))
  have bA2 := hid (bA.filled (.bool m1) (.slice p1 j1 d1) (.bool m2) (.slice p2 j2 d2))
  have hs1 := text_bound C1 (by omega)
  have hs2 := text_bound C2 (by omega)
  have HS1 := hid hs1
  have HS2 := hid hs2
  obtain ⟨y0, y1, y2, y3⟩ := bA.c
  have yf := bA.f
  have lA := bA.lt
  clear C1 C2 E0 hW1 hW0 hb1 HX hs1 hs2
  go_wp2_with fail
  clear y0 y1 y2 y3 yf lA bA
  rw [fill4_eq]
  generalize fill4 w1 w.heap.size (.bool m1) (.slice p1 j1 d1) (.bool m2) (.slice p2 j2 d2) = W1 at *
  refine (isOne_any _ _ _ _ (E.out.a _ (.tail _ (.head _)))).mono ?_
  rintro e w2 ⟨rfl, hb2⟩
  have hW3 := below_call hW2.out hb2 hW2.out.size
  have bA3 := bA2.out.keep hb2
  have E3 := E.out.step hb2
  clear hb2 hW2 bA2 E
  replace E3 := E3.rebase
  obtain ⟨y0, y1, y2, y3⟩ := bA3.c
  by_cases h1 : (r.den : Int) = 1
  · rw [decide_eq_true h1]
    have HT : Hid (textR r = str (textOf r.num)) := hid (by unfold textR; rw [if_pos h1])
    clear h1
    go_wp2_with fail
    refine (re_text E3 (List.Mem.head _) (by omega)).mono ?_
    rintro e w4 ⟨rfl, E4⟩
    have HB := hid (below_call hW3 E4.bl hW3.size)
    clear E3 E4 bA3 y0 y1 y2 y3
    go_wp2
    go_ret
    exact ⟨ret_text HT.out.symm, HB.out⟩
  · rw [decide_eq_false h1]
    have HT : Hid (textR r = str (textOf r.num) ++ ⟨#[47]⟩ ++ str (textOf r.den)) := hid (by unfold textR; rw [if_neg h1])
    clear h1
    replace E3 := E3.drew
    have hs1 : ¬ 9223372036854775807 < (str (textOf r.num)).size + 1 := by have := HS1.out; omega
    have hs2 : ¬ 9223372036854775807 < (str (textOf r.num)).size + 1 + (str (textOf (r.den : Int))).size := by have := HS1.out; have := HS2.out; omega
    go_wp2_with fail
    clear y0 y1 y2 y3
    go_region_held3 (fun W' => W'.cell? ⟨w.heap.size, 0, none⟩ = some (.bool m1) ∧ W'.cell? ⟨w.heap.size, 1, none⟩ = some (.slice p1 j1 d1) ∧ W'.cell? ⟨w.heap.size, 2, none⟩ = some (.bool m2) ∧ W'.cell? ⟨w.heap.size, 3, none⟩ = some (.slice p2 j2 d2)) (exact (bA3.keep E3.bl).c) (first
      | (go_at_call 28; go_must (refine (re_text E3 (by repeat (first | exact List.Mem.head _ | refine List.Mem.tail _ ?_)) (by omega)).mono ?_); rintro e wn ⟨rfl, En⟩; clear E3; have E3 := En; clear En))
    have HB := hid (below_call hW3 E3.bl hW3.size)
    clear E3 bA3
    go_wp2
    go_ret
    exact ⟨ret_text HT.out.symm, HB.out⟩

end Go.Proofs.Ytiicjfacekldnaa
