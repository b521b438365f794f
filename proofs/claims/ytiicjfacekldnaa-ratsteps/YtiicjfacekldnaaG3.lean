/-
  Walks: the law RatSteps.
-/
import Derived.Test.YtiicjfacekldnaaG3a
namespace Go.Proofs.Ytiicjfacekldnaa
open Go.RowKit Lm
set_option linter.unusedSimpArgs false
set_option linter.unusedVariables false
set_option maxRecDepth 100000

/-- What stands at the head of a round. -/
def SRel (w : World) (g k : Nat) (iv : Value) (wr : World) : Prop :=
  ∃ i : Nat, ∃ n1 a1 k1 c1 n2 a2 k2 c2, 1 ≤ i ∧ i ≤ k + 1 ∧ iv = .int .i64 (i : Int) ∧ Box4 wr g (.bool n1) (.slice a1 k1 c1) (.bool n2) (.slice a2 k2 c2) ∧
    RIs wr 0 (.agg #[.bool n1, .slice a1 k1 c1, .bool n2, .slice a2 k2 c2]) 2 (Rat.divInt ((i : Int) - 1) i) ∧ Below w.heap.size w wr

theorem step_bound {p q : Int} (h1 : p.natAbs < 1000) (h2 : 0 < q) (h3 : q < 1000) : (Rat.divInt p q).num.natAbs < pw 2 ∧ (Rat.divInt p q).den < pw 2 := by
  have b1 := divInt_num_le p q h2
  have b2 := divInt_den_le p q h2
  have : pw 2 = 18446744073709551616 := rfl
  omega

set_option maxHeartbeats 3200000 in
theorem ratSteps_any (w : World) (z : Int) (h1 : 0 ≤ z) (h2 : z ≤ 255) :
    Calls Try.prog 11 #[.int .u8 z] w fun e w' => e = .returned (.bool true) ∧ Below w.heap.size w w' := by
  obtain ⟨k, rfl⟩ : ∃ k : Nat, z = (k : Int) := ⟨z.toNat, by omega⟩
  have hk : k ≤ 255 := by omega
  clear h1 h2
  go_enter Try.func11, Try.ntmps11
  go_wp2_with fail
  refine (ratOf_say _ 0 (by omega) (by omega)).mono ?_
  rintro e w1 ⟨n1, a1, k1, c1, n2, a2, k2, c2, rfl, hI, hb1⟩
  have hst : Below w1.heap.size w1 (w1.alloc (.cells #[.bool n1, .slice a1 k1 c1, .bool n2, .slice a2 k2 c2] 43)) := (Below.refl _ _).alloc (Nat.le_refl _) _
  have HI := hid ((hI.mono (Nat.zero_le _) (Nat.le_refl _)).below hst)
  have HW := hid (below_call hb1 hst hb1.size)
  have hg := hb1.size
  clear hI hst hb1
  go_wp2_with fail
  go_loopw [4] (fun iv wr => SRel w w1.heap.size k iv wr) (fun iv wr => k + 2 - (intOf iv).toNat)
  case atStart => exact ⟨1, n1, a1, k1, c1, n2, a2, k2, c2, Nat.le_refl _, by omega, rfl, Box4.new _ _ _ _ _ _ rfl, HI.out, HW.out⟩
  case round =>
    obtain ⟨i, m1, b1, j1, d1, m2, b2, j2, d2, hi1, hi2, rfl, bS, IS, hWr⟩ := hrel
    clear HI HW
    by_cases hle : i ≤ k
    · have hli : (i : Int) ≤ (k : Int) := by omega
      have hw1 : IntKind.i64.wrap ((i : Int) + 1) = (i : Int) + 1 := by rw [IntKind.wrap_i64]; omega
      have hpos : (i : Int) * ((i : Int) + 1) ≤ 255 * 256 := Int.mul_le_mul (by omega) (by omega) (by omega) (by omega)
      have hpos0 : 0 < (i : Int) * ((i : Int) + 1) := Int.mul_pos (by omega) (by omega)
      have hw2 : IntKind.i64.wrap ((i : Int) * ((i : Int) + 1)) = (i : Int) * ((i : Int) + 1) := by rw [IntKind.wrap_i64]; omega
      have HP := hid hpos
      have HP0 := hid hpos0
      have HST := hid (steps_add i hi1)
      have E : RE wr wr [] [] [(.agg #[.bool m1, .slice b1 j1 d1, .bool m2, .slice b2 j2 d2], 2, Rat.divInt ((i : Int) - 1) i)] [(.agg #[.bool m1, .slice b1 j1 d1, .bool m2, .slice b2 j2 d2], 2, Rat.divInt ((i : Int) - 1) i)] := (RE.none wr).knowS IS
      clear IS hpos hpos0
      go_wp2_with fail
      refine (re_rof E 1 (by omega) (by omega)).mono ?_
      rintro e w2 ⟨n3, a3, k3, c3, rfl, E2⟩
      clear E
      go_wp2_with fail
      generalize hprod : (i : Int) * ((i : Int) + 1) = pr at *
      refine (re_rof E2 pr (by have := HP0.out; omega) (by have := HP.out; omega)).mono ?_
      rintro e w3 ⟨n4, a4, k4, c4, rfl, E3⟩
      clear E2
      go_wp2_with fail
      refine (re_quo E3 (List.Mem.tail _ (List.Mem.head _)) (List.Mem.head _) (by have := HP0.out; omega) (by omega) (by omega)).mono ?_
      rintro e w4 ⟨n5, a5, k5, c5, n6, a6, k6, c6, rfl, E4⟩
      clear E3
      have b5 : Box4 (w4.alloc (.cells #[.bool n5, .slice a5 k5 c5, .bool n6, .slice a6 k6 c6] 43)) w4.heap.size (.bool n5) (.slice a5 k5 c5) (.bool n6) (.slice a6 k6 c6) := Box4.new _ _ _ _ _ _ rfl
      have E5 := E4.alloc (.cells #[.bool n5, .slice a5 k5 c5, .bool n6, .slice a6 k6 c6] 43)
      have bS5 := bS.keep E5.bl
      have hW5 := below_call hWr E5.bl hWr.size
      replace E5 := E5.rebase
      have l5 := b5.lt
      have lS := bS5.lt
      have lS4 := (bS.keep E4.bl).lt
      clear E4 bS
      go_wp2_with fail
      generalize w4.alloc (.cells #[.bool n5, .slice a5 k5 c5, .bool n6, .slice a6 k6 c6] 43) = W5 at *
      refine (re_num E5 0).mono ?_
      rintro e w6 ⟨rfl, E6⟩
      clear E5
      obtain ⟨x0, x1, x2, x3, y0, y1, y2, y3⟩ := keep44 bS5 b5 E6.bl
      go_wp2_with fail
      clear x0 x1 x2 x3 y0 y1 y2 y3
      refine (re_rAdd E6 (List.Mem.tail _ (List.Mem.head _)) (List.Mem.head _) (by omega) (by omega)).mono ?_
      rintro e w7 ⟨n7, a7, k7, c7, n8, a8, k8, c8, rfl, E7⟩
      clear E6
      have bS7 := bS5.keep E7.bl
      have hW7 := below_call hW5 E7.bl hW5.size
      have hI := E7.s _ (List.Mem.head _)
      simp only at hI
      rw [HST.out] at hI
      have sb := step_bound (p := (i : Int)) (q := (i : Int) + 1) (by omega) (by omega) (by omega)
      have HI := hid ((hI.tight sb.1 sb.2).off4 bS7 (grow4 w7 w1.heap.size (.bool n7) (.slice a7 k7 c7) (.bool n8) (.slice a8 k8 c8)))
      have HW := hid (below_fill4 hW7 hg (.bool n7) (.slice a7 k7 c7) (.bool n8) (.slice a8 k8 c8))
      have HB := hid (bS7.filled (.bool n7) (.slice a7 k7 c7) (.bool n8) (.slice a8 k8 c8))
      obtain ⟨x0, x1, x2, x3⟩ := bS7.c
      have xf := bS7.f
      have xl := bS7.lt
      clear E7 hI sb bS7 bS5 b5 hprod
      go_wp2
      go_roundw
      case rel => exact ⟨i + 1, n7, a7, k7, c7, n8, a8, k8, c8, by omega, by omega, by go_num, HB.out, by rw [show (((i + 1 : Nat) : Int)) - 1 = (i : Int) by omega, show (((i + 1 : Nat) : Int)) = (i : Int) + 1 by omega]; exact HI.out, HW.out⟩
      case measure => simp [intOf]; omega
    · have hik : i = k + 1 := by omega
      subst hik
      have hli : ¬ (((k + 1 : Nat) : Int)) ≤ (k : Int) := by omega
      have hw1 : IntKind.i64.wrap ((k : Int) + 1) = (k : Int) + 1 := by rw [IntKind.wrap_i64]; omega
      rw [show (((k + 1 : Nat) : Int)) - 1 = (k : Int) by omega, show (((k + 1 : Nat) : Int)) = (k : Int) + 1 by omega] at IS
      have E : RE wr wr [] [] [(.agg #[.bool m1, .slice b1 j1 d1, .bool m2, .slice b2 j2 d2], 2, Rat.divInt (k : Int) ((k : Int) + 1))] [(.agg #[.bool m1, .slice b1 j1 d1, .bool m2, .slice b2 j2 d2], 2, Rat.divInt (k : Int) ((k : Int) + 1))] := (RE.none wr).knowS IS
      clear IS hle
      go_wp2_with fail
      refine (re_rof E k (by omega) (by omega)).mono ?_
      rintro e w2 ⟨n3, a3, k3, c3, rfl, E2⟩
      clear E
      go_wp2_with fail
      refine (re_rof E2 ((k : Int) + 1) (by omega) (by omega)).mono ?_
      rintro e w3 ⟨n4, a4, k4, c4, rfl, E3⟩
      clear E2
      go_wp2_with fail
      refine (re_quo E3 (List.Mem.tail _ (List.Mem.head _)) (List.Mem.head _) (by omega) (by omega) (by omega)).mono ?_
      rintro e w4 ⟨n5, a5, k5, c5, n6, a6, k6, c6, rfl, E4⟩
      clear E3
      have b5 : Box4 (w4.alloc (.cells #[.bool n5, .slice a5 k5 c5, .bool n6, .slice a6 k6 c6] 43)) w4.heap.size (.bool n5) (.slice a5 k5 c5) (.bool n6) (.slice a6 k6 c6) := Box4.new _ _ _ _ _ _ rfl
      have E5 := E4.alloc (.cells #[.bool n5, .slice a5 k5 c5, .bool n6, .slice a6 k6 c6] 43)
      have bS5 := bS.keep E5.bl
      have hW5 := below_call hWr E5.bl hWr.size
      replace E5 := E5.rebase
      have l5 := b5.lt
      have lS := bS5.lt
      clear E4 bS
      go_wp2_with fail
      generalize w4.alloc (.cells #[.bool n5, .slice a5 k5 c5, .bool n6, .slice a6 k6 c6] 43) = W5 at *
      refine (re_num E5 0).mono ?_
      rintro e w6 ⟨rfl, E6⟩
      clear E5
      obtain ⟨x0, x1, x2, x3, y0, y1, y2, y3⟩ := keep44 bS5 b5 E6.bl
      go_wp2_with fail
      clear x0 x1 x2 x3 y0 y1 y2 y3
      refine (re_sameRatE E6 (List.Mem.tail _ (List.Mem.head _)) (List.Mem.head _) rfl).mono ?_
      rintro e w7 ⟨rfl, E7⟩
      clear E6
      go_wp2_with fail
      refine (re_awake2 E7).mono ?_
      rintro e w8 ⟨rfl, E8⟩
      have HB := hid (below_call hW5 E8.bl hW5.size)
      clear E7 E8 b5 bS5
      go_wp2
      go_ret
      exact ⟨rfl, HB.out⟩

end Go.Proofs.Ytiicjfacekldnaa
