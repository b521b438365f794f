/-
  Walks: the law RatHalves.
-/
import Derived.Test.YtiicjfacekldnaaG3a
namespace Go.Proofs.Ytiicjfacekldnaa
open Go.RowKit Lm
set_option linter.unusedSimpArgs false
set_option linter.unusedVariables false
set_option maxRecDepth 100000

/-- What stands at the head of a round: x is half of it so often; a and two lie there as they did. -/
def HRel (w : World) (gT : Nat) (r : Rat) (n1 : Bool) (a1 : Option Addr) (L1 c1 : Nat) (n2 : Bool) (a2 : Option Addr) (L2 c2 : Nat) (n3 : Bool) (a3 : Option Addr) (k3 c3 : Nat) (n4 : Bool) (a4 : Option Addr) (k4 c4 : Nat) (i : Nat) (wr : World) : Prop :=
  ∃ n5 a5 k5 c5 n6 a6 k6 c6, Box4 wr w.heap.size (.bool n1) (.slice a1 L1 c1) (.bool n2) (.slice a2 L2 c2) ∧ Box4 wr gT (.bool n3) (.slice a3 k3 c3) (.bool n4) (.slice a4 k4 c4) ∧ Box4 wr (gT + 1) (.bool n5) (.slice a5 k5 c5) (.bool n6) (.slice a6 k6 c6) ∧
    RE wr wr [] [] [(.agg #[.bool n5, .slice a5 k5 c5, .bool n6, .slice a6 k6 c6], 14, halfs r i), (Value.agg #[Value.bool n3, Value.slice a3 k3 c3, Value.bool n4, Value.slice a4 k4 c4], 2, ((2 : Int) : Rat)), (Value.agg #[Value.bool n1, Value.slice a1 L1 c1, Value.bool n2, Value.slice a2 L2 c2], 6, r)] [] ∧ Below w.heap.size w wr

set_option maxHeartbeats 3200000 in
theorem ratHalves_any (w : World) (z : Int) (n1 : Bool) (a1 : Option Addr) (c1 : Nat) (l1 : List Nat) (n2 : Bool) (a2 : Option Addr) (c2 : Nat) (l2 : List Nat) (hz1 : 0 ≤ z) (hz2 : z ≤ 255) (h1 : SlAt w a1 c1 l1) (h2 : SlAt w a2 c2 l2) :
    Calls Try.prog 12 #[.int .u8 z, .agg #[.bool n1, .slice a1 l1.length c1, .bool n2, .slice a2 l2.length c2]] w fun e w' => e = .returned (.bool true) ∧ Below w.heap.size w w' := by
  obtain ⟨k, rfl⟩ : ∃ k : Nat, z = (k : Int) := ⟨z.toNat, by omega⟩
  have hk : k ≤ 255 := by omega
  clear hz1 hz2
  have hk1 := slat_len h1
  have hk2 := slat_len h2
  have HX := hid (rarg_mk (n1 := n1) (n2 := n2) h1 h2)
  clear h1 h2
  generalize ratMean n1 l1 n2 l2 = r at *
  generalize l1.length = L1 at *
  generalize l2.length = L2 at *
  go_enter Try.func12, Try.ntmps12
  go_wp2_with fail
  refine (great_r1 _ _ n1 n2 a1 a2 L1 c1 L2 c2 (by simp) hk1 hk2).mono ?_
  rintro e w0 ⟨rfl, rfl⟩
  have hW0 : Below w.heap.size w ((w.alloc (.cells #[.bool n1, .slice a1 L1 c1, .bool n2, .slice a2 L2 c2] 43)).alloc (.cells #[.bool n1, .slice a1 L1 c1, .bool n2, .slice a2 L2 c2] 43)) := (by repeat (first | exact Below.refl _ _ | refine Below.alloc ?_ ?_ _ | refine Below.setCell ?_ ?_ _ | refine Below.drew ?_ | refine below_drewN ?_ _ | (· simp) | omega | (· simp; omega) | exact Below.size (by assumption) | assumption | refine below_call ?_ (by assumption) ?_))
  have bA : Box4 ((w.alloc (.cells #[.bool n1, .slice a1 L1 c1, .bool n2, .slice a2 L2 c2] 43)).alloc (.cells #[.bool n1, .slice a1 L1 c1, .bool n2, .slice a2 L2 c2] 43)) w.heap.size (.bool n1) (.slice a1 L1 c1) (.bool n2) (.slice a2 L2 c2) := (Box4.new _ _ _ _ _ _ rfl).alloc _
  generalize (w.alloc (.cells #[.bool n1, .slice a1 L1 c1, .bool n2, .slice a2 L2 c2] 43)).alloc (.cells #[.bool n1, .slice a1 L1 c1, .bool n2, .slice a2 L2 c2] 43) = W0 at *
  cases hG : greatR [(L1, L2)]
  · obtain ⟨q1, q2⟩ := great_small hG (L1, L2) (List.Mem.head _)
    have E : RE W0 W0 [] [] [(Value.agg #[Value.bool n1, Value.slice a1 L1 c1, Value.bool n2, Value.slice a2 L2 c2], 6, r)] [] := (RE.none W0).knowR ((HX.out 6 q1 q2).below hW0)
    have HBD := hid (rarg_bound (HX.out 6 q1 q2) (by omega))
    clear HX hG hk1 hk2 q1 q2
    go_wp2_with fail
    refine (re_ratOf E 2 (by omega) (by omega)).mono ?_
    rintro e w1 ⟨n3, a3, k3, c3, n4, a4, k4, c4, rfl, E1⟩
    clear E
    have bA1 := bA.keep E1.bl
    obtain ⟨x0, x1, x2, x3⟩ := bA1.c
    have lA := bA1.lt
    have hg : w.heap.size ≤ w1.heap.size := by omega
    have E2 := (E1.alloc (.cells #[.bool n3, .slice a3 k3 c3, .bool n4, .slice a4 k4 c4] 43)).alloc (.cells #[.bool n1, .slice a1 L1 c1, .bool n2, .slice a2 L2 c2] 43)
    have HR : Hid (HRel w w1.heap.size r n1 a1 L1 c1 n2 a2 L2 c2 n3 a3 k3 c3 n4 a4 k4 c4 0 ((w1.alloc (.cells #[.bool n3, .slice a3 k3 c3, .bool n4, .slice a4 k4 c4] 43)).alloc (.cells #[.bool n1, .slice a1 L1 c1, .bool n2, .slice a2 L2 c2] 43))) := hid
      ⟨n1, a1, L1, c1, n2, a2, L2, c2, bA.keep E2.bl, (Box4.new _ _ _ _ _ _ rfl).alloc _, Box4.new _ _ _ _ _ _ (by simp), by
        rw [halfs_zero]
        exact ((E2.rebase.knowR ((E2.r _ (List.Mem.tail _ (List.Mem.head _))).mono (show 6 ≤ 14 by omega))).less (KA' := []) (KI' := []) (KS' := []) (by simp) (by simp) (by simp) (by simp)), below_call hW0 E2.bl hW0.size⟩
    clear E1 E2 bA bA1 hW0
    go_wp2_with fail
    go_loopw [7] (fun iv wr => ∃ i : Nat, i ≤ k ∧ iv = .int .i64 (i : Int) ∧ HRel w w1.heap.size r n1 a1 L1 c1 n2 a2 L2 c2 n3 a3 k3 c3 n4 a4 k4 c4 i wr) (fun iv wr => k + 1 - (intOf iv).toNat)
    case atStart => exact ⟨0, Nat.zero_le _, rfl, HR.out⟩
    case round =>
      obtain ⟨i, hi, rfl, n5, a5, k5, c5, n6, a6, k6, c6, bA, bT, bX, E, hWr⟩ := hrel
      clear HR x0 x1 x2 x3 lA
      have lA := bA.lt
      have lT := bT.lt
      have lX := bX.lt
      by_cases hle : i < k
      · have hli : (i : Int) < (k : Int) := by omega
        have HST := hid (halfs_succ r i)
        have HSB := hid (halfs_bound HBD.out.1 HBD.out.2 (show i + 1 ≤ 255 by omega))
        obtain ⟨x0, x1, x2, x3, y0, y1, y2, y3⟩ := keep44 bX bT (Below.refl _ _)
        go_wp2_with fail
        clear x0 x1 x2 x3 y0 y1 y2 y3
        refine (re_rDiv E (List.Mem.head _) (List.Mem.tail _ (List.Mem.head _)) two_ne' (by omega) (by omega)).mono ?_
        rintro e w4 ⟨n7, a7, k7, c7, n8, a8, k8, c8, rfl, E4⟩
        clear E
        have b5 : Box4 (w4.alloc (.cells #[.bool n7, .slice a7 k7 c7, .bool n8, .slice a8 k8 c8] 43)) w4.heap.size (.bool n7) (.slice a7 k7 c7) (.bool n8) (.slice a8 k8 c8) := Box4.new _ _ _ _ _ _ rfl
        have E5 := E4.alloc (.cells #[.bool n7, .slice a7 k7 c7, .bool n8, .slice a8 k8 c8] 43)
        have bA5 := bA.keep E5.bl
        have bT5 := bT.keep E5.bl
        have bX5 := bX.keep E5.bl
        have hW5 := below_call hWr E5.bl hWr.size
        replace E5 := E5.rebase
        have l5 := b5.lt
        have lX4 := (bX.keep E4.bl).lt
        clear E4 bA bT bX
        go_wp2_with fail
        generalize w4.alloc (.cells #[.bool n7, .slice a7 k7 c7, .bool n8, .slice a8 k8 c8] 43) = W5 at *
        refine (re_num E5 0).mono ?_
        rintro e w6 ⟨rfl, E6⟩
        clear E5
        have bX6 := bX5.keep E6.bl
        have bA6 := bA5.keep E6.bl
        have bT6 := bT5.keep E6.bl
        have hW6 := below_call hW5 E6.bl hW5.size
        have hI := E6.s _ (List.Mem.head _)
        simp only at hI
        rw [HST.out] at hI
        have E7 := (E6.rebase.knowR (hI.tight HSB.out.1 HSB.out.2).arg).refill bX6 (.bool n7) (.slice a7 k7 c7) (.bool n8) (.slice a8 k8 c8)
        have HR : Hid (HRel w w1.heap.size r n1 a1 L1 c1 n2 a2 L2 c2 n3 a3 k3 c3 n4 a4 k4 c4 (i + 1) (fill4 w6 (w1.heap.size + 1) (.bool n7) (.slice a7 k7 c7) (.bool n8) (.slice a8 k8 c8))) := hid
          ⟨n7, a7, k7, c7, n8, a8, k8, c8, bA6.beside (by omega) _ _ _ _, bT6.beside (by omega) _ _ _ _, bX6.filled _ _ _ _, E7.less (by simp) (by simp) (by simp) (by simp), below_fill4 hW6 (by omega) _ _ _ _⟩
        obtain ⟨x0, x1, x2, x3, y0, y1, y2, y3⟩ := keep44 bX5 b5 E6.bl
        have xf := bX6.f
        have xl := bX6.lt
        have l56 := (b5.keep E6.bl).lt
        clear E6 E7 hI bX6 bA6 bT6 bA5 bT5 bX5 b5 HST HSB
        go_wp2
        go_roundw
        case rel => exact ⟨i + 1, by omega, by go_num, HR.out⟩
        case measure => simp [intOf]; omega
      · have hik : i = k := by omega
        subst hik
        have hli : ¬ (i : Int) < (i : Int) := by omega
        have HR : Hid (HRel w w1.heap.size r n1 a1 L1 c1 n2 a2 L2 c2 n3 a3 k3 c3 n4 a4 k4 c4 i wr) := hid ⟨n5, a5, k5, c5, n6, a6, k6, c6, bA, bT, bX, E, hWr⟩
        clear bA bT bX E hWr hle lA lT lX hi
        go_wp2_with fail
        go_loopw [10] (fun jv wr => ∃ j : Nat, j ≤ i ∧ jv = .int .i64 (j : Int) ∧ HRel w w1.heap.size r n1 a1 L1 c1 n2 a2 L2 c2 n3 a3 k3 c3 n4 a4 k4 c4 (i - j) wr) (fun jv wr => i + 1 - (intOf jv).toNat)
        case atStart => exact ⟨0, Nat.zero_le _, rfl, HR.out⟩
        case round =>
          obtain ⟨j, hj, rfl, n5, a5, k5, c5, n6, a6, k6, c6, bA, bT, bX, E, hWr⟩ := hrel
          clear HR
          have lA := bA.lt
          have lT := bT.lt
          have lX := bX.lt
          by_cases hle : j < i
          · have hli2 : (j : Int) < (i : Int) := by omega
            have HST := hid (halfs_back r (i - (j + 1)))
            have HSB := hid (halfs_bound HBD.out.1 HBD.out.2 (show i - (j + 1) ≤ 255 by omega))
            rw [show i - (j + 1) + 1 = i - j by omega] at HST
            obtain ⟨x0, x1, x2, x3, y0, y1, y2, y3⟩ := keep44 bX bT (Below.refl _ _)
            go_wp2_with fail
            clear x0 x1 x2 x3 y0 y1 y2 y3
            refine (re_rMul E (List.Mem.head _) (List.Mem.tail _ (List.Mem.head _)) (by omega) (by omega)).mono ?_
            rintro e w6 ⟨n7, a7, k7, c7, n8, a8, k8, c8, rfl, E6⟩
            clear E
            have bX6 := bX.keep E6.bl
            have bA6 := bA.keep E6.bl
            have bT6 := bT.keep E6.bl
            have hW6 := below_call hWr E6.bl hWr.size
            have hI := E6.s _ (List.Mem.head _)
            simp only at hI
            rw [HST.out] at hI
            have E7 := (E6.rebase.knowR (hI.tight HSB.out.1 HSB.out.2).arg).refill bX6 (.bool n7) (.slice a7 k7 c7) (.bool n8) (.slice a8 k8 c8)
            have HR : Hid (HRel w w1.heap.size r n1 a1 L1 c1 n2 a2 L2 c2 n3 a3 k3 c3 n4 a4 k4 c4 (i - (j + 1)) (fill4 w6 (w1.heap.size + 1) (.bool n7) (.slice a7 k7 c7) (.bool n8) (.slice a8 k8 c8))) := hid
              ⟨n7, a7, k7, c7, n8, a8, k8, c8, bA6.beside (by omega) _ _ _ _, bT6.beside (by omega) _ _ _ _, bX6.filled _ _ _ _, E7.less (by simp) (by simp) (by simp) (by simp), below_fill4 hW6 (by omega) _ _ _ _⟩
            obtain ⟨x0, x1, x2, x3⟩ := bX6.c
            have xf := bX6.f
            have xl := bX6.lt
            clear E6 E7 hI bX6 bA6 bT6 bA bT bX HST HSB
            go_wp2
            go_roundw
            case rel => exact ⟨j + 1, by omega, by go_num, HR.out⟩
            case measure => simp [intOf]; omega
          · have hij : j = i := by omega
            subst hij
            rw [Nat.sub_self, halfs_zero] at E
            obtain ⟨x0, x1, x2, x3, y0, y1, y2, y3⟩ := keep44 bX bA (Below.refl _ _)
            go_wp2_with fail
            clear x0 x1 x2 x3 y0 y1 y2 y3
            refine (re_rCmp E (List.Mem.head _) (List.Mem.tail _ (List.Mem.tail _ (List.Mem.head _))) (by omega) (by omega)).mono ?_
            rintro e w7 ⟨rfl, E7⟩
            clear E
            rw [cmpR_eq rfl]
            go_wp2_with fail
            refine (re_awake2 E7).mono ?_
            rintro e w8 ⟨rfl, E8⟩
            have HB := hid (below_call hWr E8.bl hWr.size)
            clear E7 E8 bA bT bX
            go_wp2
            go_ret
            exact ⟨rfl, HB.out⟩
  · clear hG
    go_wp2_with fail
    refine (awake2_any _).mono ?_
    rintro e w1 ⟨rfl, hb⟩
    have hW1 := below_call hW0 hb hW0.size
    go_wp2
    go_ret
    exact ⟨rfl, hW1⟩

end Go.Proofs.Ytiicjfacekldnaa
