/-
  Walks: the law RatFloors.
-/
import Derived.Test.YtiicjfacekldnaaRC
namespace Go.Proofs.Ytiicjfacekldnaa
open Go.RowKit Lm
set_option linter.unusedSimpArgs false
set_option linter.unusedVariables false
set_option maxRecDepth 100000

theorem floor_one (r : Rat) : Rat.divInt r.floor 1 = (r.floor : Rat) := by
  rw [Rat.divInt_eq_div]
  grind
theorem floor_two (r : Rat) : r < (r.floor : Rat) + ((1 : Int) : Rat) := by
  have := Rat.lt_floor_add_one r
  rwa [Rat.intCast_add] at this

set_option maxHeartbeats 3200000 in
theorem ratFloors_any (w : World) (n1 : Bool) (a1 : Option Addr) (c1 : Nat) (l1 : List Nat) (n2 : Bool) (a2 : Option Addr) (c2 : Nat) (l2 : List Nat) (h1 : SlAt w a1 c1 l1) (h2 : SlAt w a2 c2 l2) :
    Calls Try.prog 10 #[.agg #[.bool n1, .slice a1 l1.length c1, .bool n2, .slice a2 l2.length c2]] w fun e w' => e = .returned (.bool true) ∧ Below w.heap.size w w' := by
  have hk1 := slat_len h1
  have hk2 := slat_len h2
  have HX := hid (rarg_mk (n1 := n1) (n2 := n2) h1 h2)
  clear h1 h2
  generalize ratMean n1 l1 n2 l2 = r at *
  generalize l1.length = L1 at *
  generalize l2.length = L2 at *
  go_enter Try.func10, Try.ntmps10
  go_wp2_with fail
  refine (great_r1 _ _ n1 n2 a1 a2 L1 c1 L2 c2 (by simp) hk1 hk2).mono ?_
  rintro e w0 ⟨rfl, rfl⟩
  have hW0 : Below w.heap.size w ((w.alloc (.cells #[.bool n1, .slice a1 L1 c1, .bool n2, .slice a2 L2 c2] 43)).alloc (.cells #[.bool n1, .slice a1 L1 c1, .bool n2, .slice a2 L2 c2] 43)) := (by repeat (first | exact Below.refl _ _ | refine Below.alloc ?_ ?_ _ | refine Below.setCell ?_ ?_ _ | refine Below.drew ?_ | refine below_drewN ?_ _ | (· simp) | omega | (· simp; omega) | exact Below.size (by assumption) | assumption | refine below_call ?_ (by assumption) ?_))
  have bA : Box4 ((w.alloc (.cells #[.bool n1, .slice a1 L1 c1, .bool n2, .slice a2 L2 c2] 43)).alloc (.cells #[.bool n1, .slice a1 L1 c1, .bool n2, .slice a2 L2 c2] 43)) w.heap.size (.bool n1) (.slice a1 L1 c1) (.bool n2) (.slice a2 L2 c2) := (Box4.new _ _ _ _ _ _ rfl).alloc _
  generalize (w.alloc (.cells #[.bool n1, .slice a1 L1 c1, .bool n2, .slice a2 L2 c2] 43)).alloc (.cells #[.bool n1, .slice a1 L1 c1, .bool n2, .slice a2 L2 c2] 43) = W0 at *
  cases hG : greatR [(L1, L2)]
  · obtain ⟨q1, q2⟩ := great_small hG (L1, L2) (List.Mem.head _)
    have E : RE W0 W0 [] [] [(Value.agg #[Value.bool n1, Value.slice a1 L1 c1, Value.bool n2, Value.slice a2 L2 c2], 6, r)] [] := (RE.none W0).knowR ((HX.out 6 q1 q2).below hW0)
    clear HX hG hk1 hk2 q1 q2
    obtain ⟨x0, x1, x2, x3⟩ := bA.c
    go_wp2_with fail
    clear x0 x1 x2 x3
    refine (re_floor E (List.Mem.head _) (by omega)).mono ?_
    rintro e w1 ⟨n3, a3, k3, c3, rfl, E1⟩
    clear E
    go_wp2_with fail
    refine (re_rof E1 1 (by omega) (by omega)).mono ?_
    rintro e w2 ⟨n4, a4, k4, c4, rfl, E2⟩
    clear E1
    go_wp2_with fail
    refine (re_quo E2 (List.Mem.tail _ (List.Mem.head _)) (List.Mem.head _) (by omega) (by omega) (by omega)).mono ?_
    rintro e w3 ⟨n5, a5, k5, c5, n6, a6, k6, c6, rfl, E3⟩
    clear E2
    rw [floor_one] at E3
    have hc1 : cmpR (r.floor : Rat) r ≤ 0 := cmpR_le (Rat.floor_le r)
    have hc2 : cmpR r ((r.floor : Rat) + ((1 : Int) : Rat)) < 0 := by rw [cmpR_lt (floor_two r)]; omega
    generalize (r.floor : Rat) = f at *
    have b5 : Box4 (w3.alloc (.cells #[.bool n5, .slice a5 k5 c5, .bool n6, .slice a6 k6 c6] 43)) w3.heap.size (.bool n5) (.slice a5 k5 c5) (.bool n6) (.slice a6 k6 c6) := Box4.new _ _ _ _ _ _ rfl
    have E4 := E3.alloc (.cells #[.bool n5, .slice a5 k5 c5, .bool n6, .slice a6 k6 c6] 43)
    have bA4 := bA.keep E4.bl
    have hW4 := below_call hW0 E4.bl hW0.size
    replace E4 := E4.rebase.less (KA' := []) (KI' := []) (KR' := [(.agg #[.bool n5, .slice a5 k5 c5, .bool n6, .slice a6 k6 c6], 6 + 5 + 2, f), (Value.agg #[Value.bool n1, Value.slice a1 L1 c1, Value.bool n2, Value.slice a2 L2 c2], 6, r)]) (KS' := []) (by simp) (by simp) (by simp) (by simp)
    have lA := bA4.lt
    have l5 := b5.lt
    clear E3 bA hW0
    go_wp2_with fail
    generalize w3.alloc (.cells #[.bool n5, .slice a5 k5 c5, .bool n6, .slice a6 k6 c6] 43) = W4 at *
    replace E4 := E4.drew
    go_region_held3 (fun W' => W'.cell? ⟨w.heap.size, 0, none⟩ = some (.bool n1) ∧ W'.cell? ⟨w.heap.size, 1, none⟩ = some (.slice a1 L1 c1) ∧ W'.cell? ⟨w.heap.size, 2, none⟩ = some (.bool n2) ∧ W'.cell? ⟨w.heap.size, 3, none⟩ = some (.slice a2 L2 c2) ∧ W'.cell? ⟨w3.heap.size, 0, none⟩ = some (.bool n5) ∧ W'.cell? ⟨w3.heap.size, 1, none⟩ = some (.slice a5 k5 c5) ∧ W'.cell? ⟨w3.heap.size, 2, none⟩ = some (.bool n6) ∧ W'.cell? ⟨w3.heap.size, 3, none⟩ = some (.slice a6 k6 c6)) (exact keep44 bA4 b5 E4.bl) (first
      | (go_at_call 23; go_must (refine (re_num E4 _).mono ?_); rintro e wn ⟨rfl, En⟩; clear E4; have E4 := En; clear En)
      | (go_at_call 51; go_must (refine (re_rCmp E4 (by repeat (first | exact List.Mem.head _ | refine List.Mem.tail _ ?_)) (by repeat (first | exact List.Mem.head _ | refine List.Mem.tail _ ?_)) (by omega) (by omega)).mono ?_); rintro e wn ⟨rfl, En⟩; clear E4; have E4 := En; clear En)
      | (go_at_call 41; go_must (refine (re_ratOf E4 _ (by omega) (by omega)).mono ?_); rintro e wn ⟨nn, an, kn, cn, no, ao, ko, co, rfl, En⟩; clear E4; have E4 := En; clear En)
      | (go_at_call 45; go_must (refine (re_rAdd E4 (by repeat (first | exact List.Mem.head _ | refine List.Mem.tail _ ?_)) (by repeat (first | exact List.Mem.head _ | refine List.Mem.tail _ ?_)) (by omega) (by omega)).mono ?_); rintro e wn ⟨nn, an, kn, cn, no, ao, ko, co, rfl, En⟩; clear E4; have E4 := En; clear En)
      | (go_at_call 35; go_must (refine (re_awake2 E4).mono ?_); rintro e wn ⟨rfl, En⟩; clear E4; have E4 := En; clear En))
    have HB := hid (below_call hW4 E4.bl hW4.size)
    clear E4 bA4 b5
    go_wp2
    go_ret
    exact ⟨rfl, HB.out⟩
  · clear hG
    go_wp2_with fail
    refine (awake2_any _).mono ?_
    rintro e w1 ⟨rfl, hb⟩
    have hW1 := below_call hW0 hb hW0.size
    go_wp2
    go_ret
    exact ⟨rfl, hW1⟩

end Go.Proofs.Ytiicjfacekldnaa
