/-
  Walks: whether two quotients are one, limb by limb; the document's example.
-/
import Derived.Test.YtiicjfacekldnaaW43
namespace Go.Proofs.Ytiicjfacekldnaa
open Go.RowKit Lm
set_option linter.unusedSimpArgs false
set_option linter.unusedVariables false
set_option maxRecDepth 100000

set_option maxHeartbeats 3200000 in
theorem sameRat_any (w : World) (u v : Value) (n m : Nat) (r t : Rat) (hu : RIs w 0 u n r) (hv : RIs w 0 v m t) :
    Calls Try.prog 40 #[u, v] w fun e w' => e = .returned (.bool (decide (r = t))) ∧ Below w.heap.size w w' := by
  obtain ⟨n1, a1, k1, c1, n2, a2, k2, c2, rfl, I1, I2⟩ := hu
  obtain ⟨n3, a3, k3, c3, n4, a4, k4, c4, rfl, I3, I4⟩ := hv
  have J1 := hid I1
  have J2 := hid I2
  have J3 := hid I3
  have J4 := hid I4
  clear I1 I2 I3 I4
  go_enter Try.func40, Try.ntmps40
  go_wp2_with fail
  have hW0 : Below w.heap.size w ((w.alloc (.cells #[.bool n1, .slice a1 k1 c1, .bool n2, .slice a2 k2 c2] 43)).alloc (.cells #[.bool n3, .slice a3 k3 c3, .bool n4, .slice a4 k4 c4] 43)) := (by repeat (first | exact Below.refl _ _ | refine Below.alloc ?_ ?_ _ | refine Below.setCell ?_ ?_ _ | refine Below.drew ?_ | refine below_drewN ?_ _ | (· simp) | omega | (· simp; omega) | exact Below.size (by assumption) | assumption | refine below_call ?_ (by assumption) ?_))
  have bA : Box4 ((w.alloc (.cells #[.bool n1, .slice a1 k1 c1, .bool n2, .slice a2 k2 c2] 43)).alloc (.cells #[.bool n3, .slice a3 k3 c3, .bool n4, .slice a4 k4 c4] 43)) w.heap.size (.bool n1) (.slice a1 k1 c1) (.bool n2) (.slice a2 k2 c2) := (Box4.new _ _ _ _ _ _ rfl).alloc _
  have bB : Box4 ((w.alloc (.cells #[.bool n1, .slice a1 k1 c1, .bool n2, .slice a2 k2 c2] 43)).alloc (.cells #[.bool n3, .slice a3 k3 c3, .bool n4, .slice a4 k4 c4] 43)) (w.heap.size + 1) (.bool n3) (.slice a3 k3 c3) (.bool n4) (.slice a4 k4 c4) := Box4.new _ _ _ _ _ _ (by simp)
  generalize ((w.alloc (.cells #[.bool n1, .slice a1 k1 c1, .bool n2, .slice a2 k2 c2] 43)).alloc (.cells #[.bool n3, .slice a3 k3 c3, .bool n4, .slice a4 k4 c4] 43)) = W0 at *
  refine (same_num _ _ _ n m 0 0 r.num t.num (J1.out.below hW0) (J3.out.below hW0)).mono ?_
  rintro e w1 ⟨rfl, hb1⟩
  have hW1 := below_call hW0 hb1 hW0.size
  obtain ⟨x0, x1, x2, x3, y0, y1, y2, y3⟩ := keep44 bA bB hb1
  have lA := (bA.keep hb1).lt
  have lB := (bB.keep hb1).lt
  clear hb1 bA bB hW0
  by_cases h1 : r.num = t.num
  · rw [decide_eq_true h1]
    have HE : Hid (decide (r = t) = decide ((r.den : Int) = t.den)) := hid (by
      by_cases h2 : (r.den : Int) = t.den
      · rw [decide_eq_true h2, decide_eq_true (Rat.ext h1 (by omega))]
      · rw [decide_eq_false h2, decide_eq_false (fun h => h2 (by rw [h]))])
    clear h1
    go_wp2_with fail
    refine (same_num _ _ _ n m 0 0 r.den t.den (J2.out.below hW1) (J4.out.below hW1)).mono ?_
    rintro e w2 ⟨rfl, hb2⟩
    have hW2 := below_call hW1 hb2 hW1.size
    clear hb2 x0 x1 x2 x3 y0 y1 y2 y3
    go_wp2
    go_ret
    exact ⟨ret_bool HE.out.symm, hW2⟩
  · rw [decide_eq_false h1]
    have HE : Hid (decide (r = t) = false) := hid (decide_eq_false (fun h => h1 (by rw [h])))
    clear h1
    go_wp2
    go_ret
    exact ⟨ret_bool HE.out.symm, hW1⟩

theorem r64_num : (Rat.divInt 6 (-4)).num = -3 := by rw [least_num _ _ (by omega)]; decide
theorem r64_den : ((Rat.divInt 6 (-4)).den : Int) = 2 := by rw [least_den _ _ (by omega)]; decide
theorem r64_floor : (Rat.divInt 6 (-4)).floor = -2 := by rw [floor_rat, r64_num, r64_den]; decide
theorem text_p2 : str (textOf 2) = ⟨#[50]⟩ := by
  have h : decs 2 = [50] := (decs_eq (l := [50]) (by intro c hc; simp at hc; omega) (by simp) (by simp [decv])).symm
  have e : textOf 2 = [50] := by
    unfold textOf
    rw [if_neg (by omega), if_neg (by omega), show (2 : Int).natAbs = 2 from rfl, h]
    rfl
  rw [e]; rfl
theorem r64_text : textR (Rat.divInt 6 (-4)) = ⟨#[45, 51, 47, 50]⟩ := by
  unfold textR
  rw [r64_num, r64_den, if_neg (by omega), text_m3, text_p2]
  rfl

set_option maxHeartbeats 3200000 in
theorem awake2_any (w : World) :
    Calls Try.prog 35 #[] w fun e w' => e = .returned (.bool true) ∧ Below w.heap.size w w' := by
  have E := RE.none w
  go_enter Try.func35, Try.ntmps35
  go_wp2_with fail
  refine (re_rof E 6 (by omega) (by omega)).mono ?_
  rintro e w1 ⟨n1, a1, k1, c1, rfl, E1⟩
  clear E
  go_wp2_with fail
  refine (re_rof E1 (-4) (by omega) (by omega)).mono ?_
  rintro e w2 ⟨n2, a2, k2, c2, rfl, E2⟩
  clear E1
  go_wp2_with fail
  refine (re_quo E2 (List.Mem.tail _ (List.Mem.head _)) (List.Mem.head _) (by omega) (by omega) (by omega)).mono ?_
  rintro e w3 ⟨n3, a3, k3, c3, n4, a4, k4, c4, rfl, E3⟩
  clear E2
  have b4 : Box4 (w3.alloc (.cells #[.bool n3, .slice a3 k3 c3, .bool n4, .slice a4 k4 c4] 43)) w3.heap.size (.bool n3) (.slice a3 k3 c3) (.bool n4) (.slice a4 k4 c4) := Box4.new _ _ _ _ _ _ rfl
  have E4 := E3.alloc (.cells #[.bool n3, .slice a3 k3 c3, .bool n4, .slice a4 k4 c4] 43)
  have hW := E4.bl
  replace E4 := E4.rebase
  clear E3
  go_wp2_with fail
  generalize w3.alloc (.cells #[.bool n3, .slice a3 k3 c3, .bool n4, .slice a4 k4 c4] 43) = W at *
  refine (re_num E4 0).mono ?_
  rintro e w5 ⟨rfl, E5⟩
  clear E4
  obtain ⟨x0, x1, x2, x3⟩ := (b4.keep E5.bl).c
  go_wp2_with fail
  clear x0 x1 x2 x3
  refine (re_rText E5 (List.Mem.head _) (by omega)).mono ?_
  rintro e w6 ⟨rfl, E6⟩
  clear E5
  rw [r64_text]
  obtain ⟨x0, x1, x2, x3⟩ := (b4.keep E6.bl).c
  go_wp2_with fail
  clear x0 x1 x2 x3
  refine (re_floor E6 (List.Mem.head _) (by omega)).mono ?_
  rintro e w7 ⟨n5, a5, k5, c5, rfl, E7⟩
  clear E6
  go_wp2_with fail
  refine (re_rof E7 (-2) (by omega) (by omega)).mono ?_
  rintro e w8 ⟨n6, a6, k6, c6, rfl, E8⟩
  clear E7
  go_wp2_with fail
  refine (re_same E8 (List.Mem.tail _ (List.Mem.head _)) (List.Mem.head _)).mono ?_
  rintro e w9 ⟨rfl, E9⟩
  have HB := hid (below_call hW E9.bl hW.size)
  clear E8 E9
  rw [decide_eq_true r64_floor]
  go_wp2
  go_ret
  exact ⟨rfl, HB.out⟩

variable {U W W' : World} {KA KI : List (Value × Nat × Int)} {KR KS : List (Value × Nat × Rat)} {u v : Value} {n m : Nat} {x y : Int} {r t : Rat}
theorem re_awake2 (E : RE U W KA KI KR KS) : Calls Try.prog 35 #[] W fun e w' => e = .returned (.bool true) ∧ RE U w' KA KI KR KS := by
  refine (awake2_any W).mono ?_
  rintro e w' ⟨rfl, hb⟩
  exact ⟨rfl, E.step hb⟩
theorem re_sameRat (E : RE U W KA KI KR KS) (hu : (u, n, r) ∈ KS) (hv : (v, m, t) ∈ KS) : Calls Try.prog 40 #[u, v] W fun e w' => e = .returned (.bool (decide (r = t))) ∧ RE U w' KA KI KR KS := by
  refine (sameRat_any W u v n m r t (E.s _ hu) (E.s _ hv)).mono ?_
  rintro e w' ⟨rfl, hb⟩
  exact ⟨rfl, E.step hb⟩
theorem re_sameRatE (E : RE U W KA KI KR KS) (hu : (u, n, r) ∈ KS) (hv : (v, m, t) ∈ KS) (h : r = t) : Calls Try.prog 40 #[u, v] W fun e w' => e = .returned (.bool true) ∧ RE U w' KA KI KR KS := by
  refine (re_sameRat E hu hv).mono ?_
  rintro e w' ⟨rfl, hb⟩
  exact ⟨by rw [decide_eq_true h], hb⟩

end Go.Proofs.Ytiicjfacekldnaa
