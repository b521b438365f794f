/-
  Walks: the law RatLaws.
-/
import Derived.Test.YtiicjfacekldnaaG5a
namespace Go.Proofs.Ytiicjfacekldnaa
open Go.RowKit Lm
set_option linter.unusedSimpArgs false
set_option linter.unusedVariables false
set_option maxRecDepth 100000

set_option maxHeartbeats 6400000 in
theorem ratLaws_any (w : World) (n1 : Bool) (a1 : Option Addr) (c1 : Nat) (l1 : List Nat) (n2 : Bool) (a2 : Option Addr) (c2 : Nat) (l2 : List Nat) (n3 : Bool) (a3 : Option Addr) (c3 : Nat) (l3 : List Nat) (n4 : Bool) (a4 : Option Addr) (c4 : Nat) (l4 : List Nat) (n5 : Bool) (a5 : Option Addr) (c5 : Nat) (l5 : List Nat) (n6 : Bool) (a6 : Option Addr) (c6 : Nat) (l6 : List Nat) (h1 : SlAt w a1 c1 l1) (h2 : SlAt w a2 c2 l2) (h3 : SlAt w a3 c3 l3) (h4 : SlAt w a4 c4 l4) (h5 : SlAt w a5 c5 l5) (h6 : SlAt w a6 c6 l6) :
    Calls Try.prog 8 #[.agg #[.bool n1, .slice a1 l1.length c1, .bool n2, .slice a2 l2.length c2], .agg #[.bool n3, .slice a3 l3.length c3, .bool n4, .slice a4 l4.length c4], .agg #[.bool n5, .slice a5 l5.length c5, .bool n6, .slice a6 l6.length c6]] w fun e w' => e = .returned (.bool true) ∧ Below w.heap.size w w' := by
  have hk1 := slat_len h1
  have hk2 := slat_len h2
  have hk3 := slat_len h3
  have hk4 := slat_len h4
  have hk5 := slat_len h5
  have hk6 := slat_len h6
  have HX := hid (rarg_mk (n1 := n1) (n2 := n2) h1 h2)
  have HY := hid (rarg_mk (n1 := n3) (n2 := n4) h3 h4)
  have HZ := hid (rarg_mk (n1 := n5) (n2 := n6) h5 h6)
  clear h1 h2 h3 h4 h5 h6
  generalize ratMean n1 l1 n2 l2 = r at *
  generalize ratMean n3 l3 n4 l4 = t at *
  generalize ratMean n5 l5 n6 l6 = q at *
  generalize l1.length = L1 at *
  generalize l2.length = L2 at *
  generalize l3.length = L3 at *
  generalize l4.length = L4 at *
  generalize l5.length = L5 at *
  generalize l6.length = L6 at *
  go_enter Try.func8, Try.ntmps8
  go_wp2_with fail
  refine (great_r3 _ _ n1 n2 n3 n4 n5 n6 a1 a2 a3 a4 a5 a6 L1 c1 L2 c2 L3 c3 L4 c4 L5 c5 L6 c6 (by simp) hk1 hk2 hk3 hk4 hk5 hk6).mono ?_
  rintro e w0 ⟨rfl, rfl⟩
  have hW0 : Below w.heap.size w ((((w.alloc (.cells #[.bool n1, .slice a1 L1 c1, .bool n2, .slice a2 L2 c2] 43)).alloc (.cells #[.bool n3, .slice a3 L3 c3, .bool n4, .slice a4 L4 c4] 43)).alloc (.cells #[.bool n5, .slice a5 L5 c5, .bool n6, .slice a6 L6 c6] 43)).alloc (.cells #[.bool n1, .slice a1 L1 c1, .bool n2, .slice a2 L2 c2, .bool n3, .slice a3 L3 c3, .bool n4, .slice a4 L4 c4, .bool n5, .slice a5 L5 c5, .bool n6, .slice a6 L6 c6] 43)) := (by repeat (first | exact Below.refl _ _ | refine Below.alloc ?_ ?_ _ | refine Below.setCell ?_ ?_ _ | refine Below.drew ?_ | refine below_drewN ?_ _ | (· simp) | omega | (· simp; omega) | exact Below.size (by assumption) | assumption | refine below_call ?_ (by assumption) ?_))
  have bA : Box4 ((((w.alloc (.cells #[.bool n1, .slice a1 L1 c1, .bool n2, .slice a2 L2 c2] 43)).alloc (.cells #[.bool n3, .slice a3 L3 c3, .bool n4, .slice a4 L4 c4] 43)).alloc (.cells #[.bool n5, .slice a5 L5 c5, .bool n6, .slice a6 L6 c6] 43)).alloc (.cells #[.bool n1, .slice a1 L1 c1, .bool n2, .slice a2 L2 c2, .bool n3, .slice a3 L3 c3, .bool n4, .slice a4 L4 c4, .bool n5, .slice a5 L5 c5, .bool n6, .slice a6 L6 c6] 43)) w.heap.size (.bool n1) (.slice a1 L1 c1) (.bool n2) (.slice a2 L2 c2) := (((Box4.new _ _ _ _ _ _ rfl).alloc _).alloc _).alloc _
  have bB : Box4 ((((w.alloc (.cells #[.bool n1, .slice a1 L1 c1, .bool n2, .slice a2 L2 c2] 43)).alloc (.cells #[.bool n3, .slice a3 L3 c3, .bool n4, .slice a4 L4 c4] 43)).alloc (.cells #[.bool n5, .slice a5 L5 c5, .bool n6, .slice a6 L6 c6] 43)).alloc (.cells #[.bool n1, .slice a1 L1 c1, .bool n2, .slice a2 L2 c2, .bool n3, .slice a3 L3 c3, .bool n4, .slice a4 L4 c4, .bool n5, .slice a5 L5 c5, .bool n6, .slice a6 L6 c6] 43)) (w.heap.size + 1) (.bool n3) (.slice a3 L3 c3) (.bool n4) (.slice a4 L4 c4) := ((Box4.new _ _ _ _ _ _ (by simp)).alloc _).alloc _
  have bC : Box4 ((((w.alloc (.cells #[.bool n1, .slice a1 L1 c1, .bool n2, .slice a2 L2 c2] 43)).alloc (.cells #[.bool n3, .slice a3 L3 c3, .bool n4, .slice a4 L4 c4] 43)).alloc (.cells #[.bool n5, .slice a5 L5 c5, .bool n6, .slice a6 L6 c6] 43)).alloc (.cells #[.bool n1, .slice a1 L1 c1, .bool n2, .slice a2 L2 c2, .bool n3, .slice a3 L3 c3, .bool n4, .slice a4 L4 c4, .bool n5, .slice a5 L5 c5, .bool n6, .slice a6 L6 c6] 43)) (w.heap.size + 1 + 1) (.bool n5) (.slice a5 L5 c5) (.bool n6) (.slice a6 L6 c6) := (Box4.new _ _ _ _ _ _ (by simp)).alloc _
  generalize (((w.alloc (.cells #[.bool n1, .slice a1 L1 c1, .bool n2, .slice a2 L2 c2] 43)).alloc (.cells #[.bool n3, .slice a3 L3 c3, .bool n4, .slice a4 L4 c4] 43)).alloc (.cells #[.bool n5, .slice a5 L5 c5, .bool n6, .slice a6 L6 c6] 43)).alloc (.cells #[.bool n1, .slice a1 L1 c1, .bool n2, .slice a2 L2 c2, .bool n3, .slice a3 L3 c3, .bool n4, .slice a4 L4 c4, .bool n5, .slice a5 L5 c5, .bool n6, .slice a6 L6 c6] 43) = W0 at *
  cases hG : greatR [(L1, L2), (L3, L4), (L5, L6)]
  · obtain ⟨q1, q2⟩ := great_small hG (L1, L2) (List.Mem.head _)
    obtain ⟨q3, q4⟩ := great_small hG (L3, L4) (List.Mem.tail _ (List.Mem.head _))
    obtain ⟨q5, q6⟩ := great_small hG (L5, L6) (List.Mem.tail _ (List.Mem.tail _ (List.Mem.head _)))
    have E : RE W0 W0 [] [] [(Value.agg #[Value.bool false, Value.slice none 0 0, Value.bool false, Value.slice none 0 0], 0, 0), (Value.agg #[Value.bool n5, Value.slice a5 L5 c5, Value.bool n6, Value.slice a6 L6 c6], 6, q), (Value.agg #[Value.bool n3, Value.slice a3 L3 c3, Value.bool n4, Value.slice a4 L4 c4], 6, t), (Value.agg #[Value.bool n1, Value.slice a1 L1 c1, Value.bool n2, Value.slice a2 L2 c2], 6, r)] [] := re_zeroR ((((RE.none W0).knowR ((HX.out 6 q1 q2).below hW0)).knowR ((HY.out 6 q3 q4).below hW0)).knowR ((HZ.out 6 q5 q6).below hW0))
    clear HX HY HZ hG hk1 hk2 hk3 hk4 hk5 hk6 q1 q2 q3 q4 q5 q6
    have lA := bA.lt
    have lB := bB.lt
    have lC := bC.lt
    replace E := E.drew
    go_wp2_with fail
    go_region_held3 (fun W' => W'.cell? ⟨w.heap.size, 0, none⟩ = some (.bool n1) ∧ W'.cell? ⟨w.heap.size, 1, none⟩ = some (.slice a1 L1 c1) ∧ W'.cell? ⟨w.heap.size, 2, none⟩ = some (.bool n2) ∧ W'.cell? ⟨w.heap.size, 3, none⟩ = some (.slice a2 L2 c2) ∧ W'.cell? ⟨w.heap.size + 1, 0, none⟩ = some (.bool n3) ∧ W'.cell? ⟨w.heap.size + 1, 1, none⟩ = some (.slice a3 L3 c3) ∧ W'.cell? ⟨w.heap.size + 1, 2, none⟩ = some (.bool n4) ∧ W'.cell? ⟨w.heap.size + 1, 3, none⟩ = some (.slice a4 L4 c4) ∧ W'.cell? ⟨w.heap.size + 1 + 1, 0, none⟩ = some (.bool n5) ∧ W'.cell? ⟨w.heap.size + 1 + 1, 1, none⟩ = some (.slice a5 L5 c5) ∧ W'.cell? ⟨w.heap.size + 1 + 1, 2, none⟩ = some (.bool n6) ∧ W'.cell? ⟨w.heap.size + 1 + 1, 3, none⟩ = some (.slice a6 L6 c6)) (exact keep444 bA bB bC E.bl) (first
      | (go_at_call 45; go_must (refine (re_rAdd E (by repeat (first | exact List.Mem.head _ | refine List.Mem.tail _ ?_)) (by repeat (first | exact List.Mem.head _ | refine List.Mem.tail _ ?_)) (by omega) (by omega)).mono ?_); rintro e wn ⟨nn, an, kn, cn, no, ao, ko, co, rfl, En⟩; clear E; have E := En; clear En)
      | (go_at_call 49; go_must (refine (re_rMul E (by repeat (first | exact List.Mem.head _ | refine List.Mem.tail _ ?_)) (by repeat (first | exact List.Mem.head _ | refine List.Mem.tail _ ?_)) (by omega) (by omega)).mono ?_); rintro e wn ⟨nn, an, kn, cn, no, ao, ko, co, rfl, En⟩; clear E; have E := En; clear En)
      | (go_at_call 40; go_must (refine (re_sameRatE E (by repeat (first | exact List.Mem.head _ | refine List.Mem.tail _ ?_)) (by repeat (first | exact List.Mem.head _ | refine List.Mem.tail _ ?_)) (by first | exact Rat.add_comm _ _ | exact Rat.mul_comm _ _ | exact Rat.add_assoc _ _ _ | exact Rat.mul_assoc _ _ _ | exact Rat.mul_add _ _ _)).mono ?_); rintro e wn ⟨rfl, En⟩; clear E; have E := En; clear En))
    have En := E.less (KA' := []) (KI' := []) (KR' := [(Value.agg #[Value.bool false, Value.slice none 0 0, Value.bool false, Value.slice none 0 0], 0, 0), (Value.agg #[Value.bool n5, Value.slice a5 L5 c5, Value.bool n6, Value.slice a6 L6 c6], 6, q), (Value.agg #[Value.bool n3, Value.slice a3 L3 c3, Value.bool n4, Value.slice a4 L4 c4], 6, t), (Value.agg #[Value.bool n1, Value.slice a1 L1 c1, Value.bool n2, Value.slice a2 L2 c2], 6, r)]) (KS' := []) (by simp) (by simp) (by simp) (by simp)
    clear E; have E := En; clear En
    replace E := E.drew
    go_wp2_with fail
    go_region_held3 (fun W' => W'.cell? ⟨w.heap.size, 0, none⟩ = some (.bool n1) ∧ W'.cell? ⟨w.heap.size, 1, none⟩ = some (.slice a1 L1 c1) ∧ W'.cell? ⟨w.heap.size, 2, none⟩ = some (.bool n2) ∧ W'.cell? ⟨w.heap.size, 3, none⟩ = some (.slice a2 L2 c2) ∧ W'.cell? ⟨w.heap.size + 1, 0, none⟩ = some (.bool n3) ∧ W'.cell? ⟨w.heap.size + 1, 1, none⟩ = some (.slice a3 L3 c3) ∧ W'.cell? ⟨w.heap.size + 1, 2, none⟩ = some (.bool n4) ∧ W'.cell? ⟨w.heap.size + 1, 3, none⟩ = some (.slice a4 L4 c4) ∧ W'.cell? ⟨w.heap.size + 1 + 1, 0, none⟩ = some (.bool n5) ∧ W'.cell? ⟨w.heap.size + 1 + 1, 1, none⟩ = some (.slice a5 L5 c5) ∧ W'.cell? ⟨w.heap.size + 1 + 1, 2, none⟩ = some (.bool n6) ∧ W'.cell? ⟨w.heap.size + 1 + 1, 3, none⟩ = some (.slice a6 L6 c6)) (exact keep444 bA bB bC E.bl) (first
      | (go_at_call 45; go_must (refine (re_rAdd E (by repeat (first | exact List.Mem.head _ | refine List.Mem.tail _ ?_)) (by repeat (first | exact List.Mem.head _ | refine List.Mem.tail _ ?_)) (by omega) (by omega)).mono ?_); rintro e wn ⟨nn, an, kn, cn, no, ao, ko, co, rfl, En⟩; clear E; have E := En; clear En)
      | (go_at_call 49; go_must (refine (re_rMul E (by repeat (first | exact List.Mem.head _ | refine List.Mem.tail _ ?_)) (by repeat (first | exact List.Mem.head _ | refine List.Mem.tail _ ?_)) (by omega) (by omega)).mono ?_); rintro e wn ⟨nn, an, kn, cn, no, ao, ko, co, rfl, En⟩; clear E; have E := En; clear En)
      | (go_at_call 47; go_must (refine (re_rSub E (by repeat (first | exact List.Mem.head _ | refine List.Mem.tail _ ?_)) (by repeat (first | exact List.Mem.head _ | refine List.Mem.tail _ ?_)) (by omega) (by omega)).mono ?_); rintro e wn ⟨nn, an, kn, cn, no, ao, ko, co, rfl, En⟩; clear E; have E := En; clear En)
      | (go_at_call 40; go_must (refine (re_sameRatE E (by repeat (first | exact List.Mem.head _ | refine List.Mem.tail _ ?_)) (by repeat (first | exact List.Mem.head _ | refine List.Mem.tail _ ?_)) (by first | exact Rat.add_comm _ _ | exact Rat.mul_comm _ _ | exact Rat.add_assoc _ _ _ | exact Rat.mul_assoc _ _ _ | exact Rat.mul_add _ _ _)).mono ?_); rintro e wn ⟨rfl, En⟩; clear E; have E := En; clear En)
      | (go_at_call 51; go_must (refine (re_rCmpV E (z := 0) (by repeat (first | exact List.Mem.head _ | refine List.Mem.tail _ ?_)) (by repeat (first | exact List.Mem.head _ | refine List.Mem.tail _ ?_)) (by exact cmpR_eq Rat.add_sub_cancel) (by omega) (by omega)).mono ?_); rintro e wn ⟨rfl, En⟩; clear E; have E := En; clear En))
    have En := E.less (KA' := []) (KI' := []) (KR' := [(Value.agg #[Value.bool false, Value.slice none 0 0, Value.bool false, Value.slice none 0 0], 0, 0), (Value.agg #[Value.bool n5, Value.slice a5 L5 c5, Value.bool n6, Value.slice a6 L6 c6], 6, q), (Value.agg #[Value.bool n3, Value.slice a3 L3 c3, Value.bool n4, Value.slice a4 L4 c4], 6, t), (Value.agg #[Value.bool n1, Value.slice a1 L1 c1, Value.bool n2, Value.slice a2 L2 c2], 6, r)]) (KS' := []) (by simp) (by simp) (by simp) (by simp)
    clear E; have E := En; clear En
    obtain ⟨x0, x1, x2, x3, y0, y1, y2, y3, z0, z1, z2, z3⟩ := keep444 bA bB bC E.bl
    go_wp2_with fail
    clear x0 x1 x2 x3 y0 y1 y2 y3 z0 z1 z2 z3
    by_cases ht : t = 0
    · have HC : Hid (cmpR t 0 = 0) := hid (cmpR_eq ht)
      refine (re_rDivz E (u := Value.agg #[Value.bool n1, Value.slice a1 L1 c1, Value.bool n2, Value.slice a2 L2 c2]) (v := Value.agg #[Value.bool n3, Value.slice a3 L3 c3, Value.bool n4, Value.slice a4 L4 c4]) (by repeat (first | exact List.Mem.head _ | refine List.Mem.tail _ ?_)) (by repeat (first | exact List.Mem.head _ | refine List.Mem.tail _ ?_)) ht (by omega) (by omega)).mono ?_
      rintro e w1 ⟨rfl, E1⟩
      clear E ht
      have E2 := E1.alloc (.cells #[.bool false, .slice none 0 0, .bool false, .slice none 0 0] 43)
      obtain ⟨y0, y1, y2, y3⟩ := (bB.keep E1.bl).c
      have lB1 := (bB.keep E1.bl).lt
      clear E1
      go_wp2_with fail
      clear y0 y1 y2 y3
      refine (re_rCmpV E2 (u := Value.agg #[Value.bool n3, Value.slice a3 L3 c3, Value.bool n4, Value.slice a4 L4 c4]) (v := Value.agg #[Value.bool false, Value.slice none 0 0, Value.bool false, Value.slice none 0 0]) (by repeat (first | exact List.Mem.head _ | refine List.Mem.tail _ ?_)) (by repeat (first | exact List.Mem.head _ | refine List.Mem.tail _ ?_)) HC.out (by omega) (by omega)).mono ?_
      rintro e w3 ⟨rfl, E3⟩
      clear E2
      go_wp2_with fail
      refine (re_num E3 11).mono ?_
      rintro e w4 ⟨rfl, E4⟩
      clear E3
      go_wp2_with fail
      refine (re_awake2 E4).mono ?_
      rintro e w5 ⟨rfl, E5⟩
      have HB := hid (below_call hW0 E5.bl hW0.size)
      clear E4 E5 bA bB bC
      go_wp2
      go_ret
      exact ⟨rfl, HB.out⟩
    · have HC := hid (cmpR_ne ht)
      have HQ : Hid (cmpR (r / t * t) r = 0) := hid (cmpR_eq (Rat.div_mul_cancel ht))
      refine (re_rDiv E (u := Value.agg #[Value.bool n1, Value.slice a1 L1 c1, Value.bool n2, Value.slice a2 L2 c2]) (v := Value.agg #[Value.bool n3, Value.slice a3 L3 c3, Value.bool n4, Value.slice a4 L4 c4]) (by repeat (first | exact List.Mem.head _ | refine List.Mem.tail _ ?_)) (by repeat (first | exact List.Mem.head _ | refine List.Mem.tail _ ?_)) ht (by omega) (by omega)).mono ?_
      rintro e w1 ⟨m1, p1, j1, d1, m2, p2, j2, d2, rfl, E1⟩
      clear E ht
      generalize r / t = f at *
      have bQ : Box4 (w1.alloc (.cells #[.bool m1, .slice p1 j1 d1, .bool m2, .slice p2 j2 d2] 43)) w1.heap.size (.bool m1) (.slice p1 j1 d1) (.bool m2) (.slice p2 j2 d2) := Box4.new _ _ _ _ _ _ rfl
      have E2 := E1.alloc (.cells #[.bool m1, .slice p1 j1 d1, .bool m2, .slice p2 j2 d2] 43)
      obtain ⟨y0, y1, y2, y3⟩ := (bB.keep E1.bl).c
      have lB1 := (bB.keep E1.bl).lt
      have bA2 := bA.keep E2.bl
      have bB2 := bB.keep E2.bl
      have hW2 := below_call hW0 E2.bl hW0.size
      replace E2 := E2.rebase
      have lA2 := bA2.lt
      have lB2 := bB2.lt
      clear E1 bA bB bC
      go_wp2_with fail
      clear y0 y1 y2 y3
      generalize w1.alloc (.cells #[.bool m1, .slice p1 j1 d1, .bool m2, .slice p2 j2 d2] 43) = W2 at *
      obtain ⟨cv, hcv⟩ : ∃ cv, cmpR t 0 = cv := ⟨_, rfl⟩
      refine (re_rCmpV E2 (u := Value.agg #[Value.bool n3, Value.slice a3 L3 c3, Value.bool n4, Value.slice a4 L4 c4]) (v := Value.agg #[Value.bool false, Value.slice none 0 0, Value.bool false, Value.slice none 0 0]) (by repeat (first | exact List.Mem.head _ | refine List.Mem.tail _ ?_)) (by repeat (first | exact List.Mem.head _ | refine List.Mem.tail _ ?_)) hcv (by omega) (by omega)).mono ?_
      rintro e w3 ⟨rfl, E3⟩
      have hcb : (cv == 0) = false := by rw [← hcv]; simpa using HC.out
      clear E2 hcv HC
      have E := E3.drew
      clear E3
      go_wp2_with fail
      go_region_held3 (fun W' => W'.cell? ⟨w.heap.size, 0, none⟩ = some (.bool n1) ∧ W'.cell? ⟨w.heap.size, 1, none⟩ = some (.slice a1 L1 c1) ∧ W'.cell? ⟨w.heap.size, 2, none⟩ = some (.bool n2) ∧ W'.cell? ⟨w.heap.size, 3, none⟩ = some (.slice a2 L2 c2) ∧ W'.cell? ⟨w.heap.size + 1, 0, none⟩ = some (.bool n3) ∧ W'.cell? ⟨w.heap.size + 1, 1, none⟩ = some (.slice a3 L3 c3) ∧ W'.cell? ⟨w.heap.size + 1, 2, none⟩ = some (.bool n4) ∧ W'.cell? ⟨w.heap.size + 1, 3, none⟩ = some (.slice a4 L4 c4) ∧ W'.cell? ⟨w1.heap.size, 0, none⟩ = some (.bool m1) ∧ W'.cell? ⟨w1.heap.size, 1, none⟩ = some (.slice p1 j1 d1) ∧ W'.cell? ⟨w1.heap.size, 2, none⟩ = some (.bool m2) ∧ W'.cell? ⟨w1.heap.size, 3, none⟩ = some (.slice p2 j2 d2)) (exact keep444 bA2 bB2 bQ E.bl) (first
        | (go_at_call 23; go_must (refine (re_num E _).mono ?_); rintro e wn ⟨rfl, En⟩; clear E; have E := En; clear En)
        | (go_at_call 49; go_must (refine (re_rMul E (by repeat (first | exact List.Mem.head _ | refine List.Mem.tail _ ?_)) (by repeat (first | exact List.Mem.head _ | refine List.Mem.tail _ ?_)) (by omega) (by omega)).mono ?_); rintro e wn ⟨nn, an, kn, cn, no, ao, ko, co, rfl, En⟩; clear E; have E := En; clear En)
        | (go_at_call 51; go_must (refine (re_rCmpV E (z := 0) (by repeat (first | exact List.Mem.head _ | refine List.Mem.tail _ ?_)) (by repeat (first | exact List.Mem.head _ | refine List.Mem.tail _ ?_)) (by exact HQ.out) (by omega) (by omega)).mono ?_); rintro e wn ⟨rfl, En⟩; clear E; have E := En; clear En)
        | (go_at_call 35; go_must (refine (re_awake2 E).mono ?_); rintro e wn ⟨rfl, En⟩; clear E; have E := En; clear En))
      have HB := hid (below_call hW2 E.bl hW2.size)
      clear E bA2 bB2 bQ
      go_wp2
      go_ret
      exact ⟨rfl, HB.out⟩
  · clear hG
    go_wp2_with fail
    refine (awake2_any _).mono ?_
    rintro e w1 ⟨rfl, hb⟩
    have hW1 := below_call hW0 hb hW0.size
    go_wp2
    go_ret
    exact ⟨rfl, hW1⟩

end Go.Proofs.Ytiicjfacekldnaa
