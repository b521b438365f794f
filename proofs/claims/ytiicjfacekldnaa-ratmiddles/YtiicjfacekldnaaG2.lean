/-
  Walks: the law RatMiddles.
-/
import Derived.Test.YtiicjfacekldnaaRC
namespace Go.Proofs.Ytiicjfacekldnaa
open Go.RowKit Lm
set_option linter.unusedSimpArgs false
set_option linter.unusedVariables false
set_option maxRecDepth 100000

theorem two_ne : ((2 : Int) : Rat) ≠ 0 := by decide
theorem half_lt {r t : Rat} (h : r < t) : r < (r + t) / ((2 : Int) : Rat) ∧ (r + t) / ((2 : Int) : Rat) < t := by
  have e : ((2 : Int) : Rat) = 2 := rfl
  rw [e]
  constructor <;> grind
theorem half_eq (r : Rat) : (r + r) / ((2 : Int) : Rat) = r := by
  have e : ((2 : Int) : Rat) = 2 := rfl
  rw [e]
  grind
theorem add_c (r t : Rat) : r + t = t + r := Rat.add_comm r t
theorem mid1 (r t : Rat) : cmpR r ((r + t) / ((2 : Int) : Rat)) = cmpR r t := by
  rcases cmpR_or r t with ⟨h1, h2⟩ | ⟨h1, h2⟩ | ⟨h1, h2⟩
  · rw [h2, cmpR_lt (half_lt h1).1]
  · subst h1
    rw [half_eq]
  · rw [h2, add_c, cmpR_gt (half_lt h1).2]
theorem mid2 (r t : Rat) : cmpR ((r + t) / ((2 : Int) : Rat)) t = cmpR r t := by
  rcases cmpR_or r t with ⟨h1, h2⟩ | ⟨h1, h2⟩ | ⟨h1, h2⟩
  · rw [h2, cmpR_lt (half_lt h1).2]
  · subst h1
    rw [half_eq]
  · rw [h2, add_c, cmpR_gt (half_lt h1).1]

set_option maxHeartbeats 3200000 in
theorem ratMiddles_any (w : World) (n1 : Bool) (a1 : Option Addr) (c1 : Nat) (l1 : List Nat) (n2 : Bool) (a2 : Option Addr) (c2 : Nat) (l2 : List Nat) (n3 : Bool) (a3 : Option Addr) (c3 : Nat) (l3 : List Nat) (n4 : Bool) (a4 : Option Addr) (c4 : Nat) (l4 : List Nat) (h1 : SlAt w a1 c1 l1) (h2 : SlAt w a2 c2 l2) (h3 : SlAt w a3 c3 l3) (h4 : SlAt w a4 c4 l4) :
    Calls Try.prog 13 #[.agg #[.bool n1, .slice a1 l1.length c1, .bool n2, .slice a2 l2.length c2], .agg #[.bool n3, .slice a3 l3.length c3, .bool n4, .slice a4 l4.length c4]] w fun e w' => e = .returned (.bool true) ∧ Below w.heap.size w w' := by
  have hk1 := slat_len h1
  have hk2 := slat_len h2
  have hk3 := slat_len h3
  have hk4 := slat_len h4
  have HX := hid (rarg_mk (n1 := n1) (n2 := n2) h1 h2)
  have HY := hid (rarg_mk (n1 := n3) (n2 := n4) h3 h4)
  clear h1 h2 h3 h4
  generalize ratMean n1 l1 n2 l2 = r at *
  generalize ratMean n3 l3 n4 l4 = t at *
  generalize l1.length = L1 at *
  generalize l2.length = L2 at *
  generalize l3.length = L3 at *
  generalize l4.length = L4 at *
  go_enter Try.func13, Try.ntmps13
  go_wp2_with fail
  refine (great_r2 _ _ n1 n2 n3 n4 a1 a2 a3 a4 L1 c1 L2 c2 L3 c3 L4 c4 (by simp) hk1 hk2 hk3 hk4).mono ?_
  rintro e w0 ⟨rfl, rfl⟩
  have hW0 : Below w.heap.size w (((w.alloc (.cells #[.bool n1, .slice a1 L1 c1, .bool n2, .slice a2 L2 c2] 43)).alloc (.cells #[.bool n3, .slice a3 L3 c3, .bool n4, .slice a4 L4 c4] 43)).alloc (.cells #[.bool n1, .slice a1 L1 c1, .bool n2, .slice a2 L2 c2, .bool n3, .slice a3 L3 c3, .bool n4, .slice a4 L4 c4] 43)) := (by repeat (first | exact Below.refl _ _ | refine Below.alloc ?_ ?_ _ | refine Below.setCell ?_ ?_ _ | refine Below.drew ?_ | refine below_drewN ?_ _ | (· simp) | omega | (· simp; omega) | exact Below.size (by assumption) | assumption | refine below_call ?_ (by assumption) ?_))
  have bA : Box4 (((w.alloc (.cells #[.bool n1, .slice a1 L1 c1, .bool n2, .slice a2 L2 c2] 43)).alloc (.cells #[.bool n3, .slice a3 L3 c3, .bool n4, .slice a4 L4 c4] 43)).alloc (.cells #[.bool n1, .slice a1 L1 c1, .bool n2, .slice a2 L2 c2, .bool n3, .slice a3 L3 c3, .bool n4, .slice a4 L4 c4] 43)) w.heap.size (.bool n1) (.slice a1 L1 c1) (.bool n2) (.slice a2 L2 c2) := ((Box4.new _ _ _ _ _ _ rfl).alloc _).alloc _
  have bB : Box4 (((w.alloc (.cells #[.bool n1, .slice a1 L1 c1, .bool n2, .slice a2 L2 c2] 43)).alloc (.cells #[.bool n3, .slice a3 L3 c3, .bool n4, .slice a4 L4 c4] 43)).alloc (.cells #[.bool n1, .slice a1 L1 c1, .bool n2, .slice a2 L2 c2, .bool n3, .slice a3 L3 c3, .bool n4, .slice a4 L4 c4] 43)) (w.heap.size + 1) (.bool n3) (.slice a3 L3 c3) (.bool n4) (.slice a4 L4 c4) := (Box4.new _ _ _ _ _ _ (by simp)).alloc _
  generalize ((w.alloc (.cells #[.bool n1, .slice a1 L1 c1, .bool n2, .slice a2 L2 c2] 43)).alloc (.cells #[.bool n3, .slice a3 L3 c3, .bool n4, .slice a4 L4 c4] 43)).alloc (.cells #[.bool n1, .slice a1 L1 c1, .bool n2, .slice a2 L2 c2, .bool n3, .slice a3 L3 c3, .bool n4, .slice a4 L4 c4] 43) = W0 at *
  cases hG : greatR [(L1, L2), (L3, L4)]
  · obtain ⟨q1, q2⟩ := great_small hG (L1, L2) (List.Mem.head _)
    obtain ⟨q3, q4⟩ := great_small hG (L3, L4) (List.Mem.tail _ (List.Mem.head _))
    have E : RE W0 W0 [] [] [(Value.agg #[Value.bool n3, Value.slice a3 L3 c3, Value.bool n4, Value.slice a4 L4 c4], 6, t), (Value.agg #[Value.bool n1, Value.slice a1 L1 c1, Value.bool n2, Value.slice a2 L2 c2], 6, r)] [] := ((RE.none W0).knowR ((HX.out 6 q1 q2).below hW0)).knowR ((HY.out 6 q3 q4).below hW0)
    clear HX HY hG hk1 hk2 hk3 hk4 q1 q2 q3 q4
    obtain ⟨x0, x1, x2, x3, y0, y1, y2, y3⟩ := keep44 bA bB (Below.refl _ _)
    have lA := bA.lt
    have lB := bB.lt
    go_wp2_with fail
    clear x0 x1 x2 x3 y0 y1 y2 y3
    refine (re_rAdd E (List.Mem.tail _ (List.Mem.head _)) (List.Mem.head _) (by omega) (by omega)).mono ?_
    rintro e w1 ⟨n7, a7, k7, c7, n8, a8, k8, c8, rfl, E1⟩
    clear E
    go_wp2_with fail
    refine (re_ratOf E1 2 (by omega) (by omega)).mono ?_
    rintro e w2 ⟨n9, a9, k9, c9, n0, a0, k0, c0, rfl, E2⟩
    clear E1
    go_wp2_with fail
    refine (re_rDiv E2 (List.Mem.tail _ (List.Mem.head _)) (List.Mem.head _) two_ne (by omega) (by omega)).mono ?_
    rintro e w3 ⟨n5, a5, k5, c5, n6, a6, k6, c6, rfl, E3⟩
    clear E2
    have hc1 := mid1 r t
    have hc2 := mid2 r t
    generalize (r + t) / ((2 : Int) : Rat) = f at *
    have b5 : Box4 (w3.alloc (.cells #[.bool n5, .slice a5 k5 c5, .bool n6, .slice a6 k6 c6] 43)) w3.heap.size (.bool n5) (.slice a5 k5 c5) (.bool n6) (.slice a6 k6 c6) := Box4.new _ _ _ _ _ _ rfl
    have E4 := E3.alloc (.cells #[.bool n5, .slice a5 k5 c5, .bool n6, .slice a6 k6 c6] 43)
    have bA4 := bA.keep E4.bl
    have bB4 := bB.keep E4.bl
    have hW4 := below_call hW0 E4.bl hW0.size
    replace E4 := E4.rebase.less (KA' := []) (KI' := []) (KR' := [(Value.agg #[Value.bool n5, Value.slice a5 k5 c5, Value.bool n6, Value.slice a6 k6 c6], 144, f), (Value.agg #[Value.bool n3, Value.slice a3 L3 c3, Value.bool n4, Value.slice a4 L4 c4], 6, t), (Value.agg #[Value.bool n1, Value.slice a1 L1 c1, Value.bool n2, Value.slice a2 L2 c2], 6, r)]) (KS' := []) (by simp) (by simp) (by simp) (by simp)
    obtain ⟨x0, x1, x2, x3, y0, y1, y2, y3⟩ := keep44 (bA.keep E3.bl) (bB.keep E3.bl) (Below.refl _ _)
    have lA3 := (bA.keep E3.bl).lt
    have lB3 := (bB.keep E3.bl).lt
    clear E3 bA bB hW0
    go_wp2_with fail
    clear x0 x1 x2 x3 y0 y1 y2 y3
    generalize w3.alloc (.cells #[.bool n5, .slice a5 k5 c5, .bool n6, .slice a6 k6 c6] 43) = W4 at *
    refine (re_rCmp E4 (List.Mem.tail _ (List.Mem.tail _ (List.Mem.head _))) (List.Mem.tail _ (List.Mem.head _)) (by omega) (by omega)).mono ?_
    rintro e w5 ⟨rfl, E5⟩
    clear E4
    go_wp2_with fail
    refine (re_num E5 0).mono ?_
    rintro e w6 ⟨rfl, E6⟩
    clear E5
    obtain ⟨x0, x1, x2, x3, y0, y1, y2, y3⟩ := keep44 bA4 b5 E6.bl
    go_wp2_with fail
    clear x0 x1 x2 x3 y0 y1 y2 y3
    refine (re_rCmp E6 (List.Mem.tail _ (List.Mem.tail _ (List.Mem.head _))) (List.Mem.head _) (by omega) (by omega)).mono ?_
    rintro e w7 ⟨rfl, E7⟩
    clear E6
    rw [hc1]
    obtain ⟨x0, x1, x2, x3, y0, y1, y2, y3⟩ := keep44 b5 bB4 E7.bl
    go_wp2_with fail
    clear x0 x1 x2 x3 y0 y1 y2 y3
    refine (re_rCmp E7 (List.Mem.head _) (List.Mem.tail _ (List.Mem.head _)) (by omega) (by omega)).mono ?_
    rintro e w8 ⟨rfl, E8⟩
    clear E7
    rw [hc2]
    go_wp2_with fail
    refine (re_awake2 E8).mono ?_
    rintro e w9 ⟨rfl, E9⟩
    have HB := hid (below_call hW4 E9.bl hW4.size)
    clear E8 E9 bA4 bB4 b5
    go_wp2
    go_ret
    exact ⟨rfl, HB.out⟩
  · clear hG
    go_wp2_with fail
    refine (awake2_any _).mono ?_
    rintro e w1 ⟨rfl, hb⟩
    have hW1 := below_call hW0 hb hW0.size
    go_wp2
    go_ret
    exact ⟨rfl, hW1⟩

end Go.Proofs.Ytiicjfacekldnaa
