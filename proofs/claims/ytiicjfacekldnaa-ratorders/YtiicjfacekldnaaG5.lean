/-
  Walks: the law RatOrders.
-/
import Derived.Test.YtiicjfacekldnaaG5a
namespace Go.Proofs.Ytiicjfacekldnaa
open Go.RowKit Lm
set_option linter.unusedSimpArgs false
set_option linter.unusedVariables false
set_option maxRecDepth 100000

set_option maxHeartbeats 6400000 in
theorem ratOrders_any (w : World) (n1 : Bool) (a1 : Option Addr) (c1 : Nat) (l1 : List Nat) (n2 : Bool) (a2 : Option Addr) (c2 : Nat) (l2 : List Nat) (n3 : Bool) (a3 : Option Addr) (c3 : Nat) (l3 : List Nat) (n4 : Bool) (a4 : Option Addr) (c4 : Nat) (l4 : List Nat) (n5 : Bool) (a5 : Option Addr) (c5 : Nat) (l5 : List Nat) (n6 : Bool) (a6 : Option Addr) (c6 : Nat) (l6 : List Nat) (h1 : SlAt w a1 c1 l1) (h2 : SlAt w a2 c2 l2) (h3 : SlAt w a3 c3 l3) (h4 : SlAt w a4 c4 l4) (h5 : SlAt w a5 c5 l5) (h6 : SlAt w a6 c6 l6) :
    Calls Try.prog 9 #[.agg #[.bool n1, .slice a1 l1.length c1, .bool n2, .slice a2 l2.length c2], .agg #[.bool n3, .slice a3 l3.length c3, .bool n4, .slice a4 l4.length c4], .agg #[.bool n5, .slice a5 l5.length c5, .bool n6, .slice a6 l6.length c6]] w fun e w' => e = .returned (.bool true) ∧ Below w.heap.size w w' := by
  have hk1 := slat_len h1
  have hk2 := slat_len h2
  have hk3 := slat_len h3
  have hk4 := slat_len h4
  have hk5 := slat_len h5
  have hk6 := slat_len h6
  have HX := hid (rarg_mk (n1 := n1) (n2 := n2) h1 h2)
  have HY := hid (rarg_mk (n1 := n3) (n2 := n4) h3 h4)
  have HZ := hid (rarg_mk (n1 := n5) (n2 := n6) h5 h6)
  clear h1 h2 h3 h4 h5 h6
  generalize ratMean n1 l1 n2 l2 = r at *
  generalize ratMean n3 l3 n4 l4 = t at *
  generalize ratMean n5 l5 n6 l6 = q at *
  generalize l1.length = L1 at *
  generalize l2.length = L2 at *
  generalize l3.length = L3 at *
  generalize l4.length = L4 at *
  generalize l5.length = L5 at *
  generalize l6.length = L6 at *
  go_enter Try.func9, Try.ntmps9
  go_wp2_with fail
  refine (great_r3 _ _ n1 n2 n3 n4 n5 n6 a1 a2 a3 a4 a5 a6 L1 c1 L2 c2 L3 c3 L4 c4 L5 c5 L6 c6 (by simp) hk1 hk2 hk3 hk4 hk5 hk6).mono ?_
  rintro e w0 ⟨rfl, rfl⟩
  have hW0 : Below w.heap.size w ((((w.alloc (.cells #[.bool n1, .slice a1 L1 c1, .bool n2, .slice a2 L2 c2] 43)).alloc (.cells #[.bool n3, .slice a3 L3 c3, .bool n4, .slice a4 L4 c4] 43)).alloc (.cells #[.bool n5, .slice a5 L5 c5, .bool n6, .slice a6 L6 c6] 43)).alloc (.cells #[.bool n1, .slice a1 L1 c1, .bool n2, .slice a2 L2 c2, .bool n3, .slice a3 L3 c3, .bool n4, .slice a4 L4 c4, .bool n5, .slice a5 L5 c5, .bool n6, .slice a6 L6 c6] 43)) := (by repeat (first | exact Below.refl _ _ | refine Below.alloc ?_ ?_ _ | refine Below.setCell ?_ ?_ _ | refine Below.drew ?_ | refine below_drewN ?_ _ | (· simp) | omega | (· simp; omega) | exact Below.size (by assumption) | assumption | refine below_call ?_ (by assumption) ?_))
  have bA : Box4 ((((w.alloc (.cells #[.bool n1, .slice a1 L1 c1, .bool n2, .slice a2 L2 c2] 43)).alloc (.cells #[.bool n3, .slice a3 L3 c3, .bool n4, .slice a4 L4 c4] 43)).alloc (.cells #[.bool n5, .slice a5 L5 c5, .bool n6, .slice a6 L6 c6] 43)).alloc (.cells #[.bool n1, .slice a1 L1 c1, .bool n2, .slice a2 L2 c2, .bool n3, .slice a3 L3 c3, .bool n4, .slice a4 L4 c4, .bool n5, .slice a5 L5 c5, .bool n6, .slice a6 L6 c6] 43)) w.heap.size (.bool n1) (.slice a1 L1 c1) (.bool n2) (.slice a2 L2 c2) := (((Box4.new _ _ _ _ _ _ rfl).alloc _).alloc _).alloc _
  have bB : Box4 ((((w.alloc (.cells #[.bool n1, .slice a1 L1 c1, .bool n2, .slice a2 L2 c2] 43)).alloc (.cells #[.bool n3, .slice a3 L3 c3, .bool n4, .slice a4 L4 c4] 43)).alloc (.cells #[.bool n5, .slice a5 L5 c5, .bool n6, .slice a6 L6 c6] 43)).alloc (.cells #[.bool n1, .slice a1 L1 c1, .bool n2, .slice a2 L2 c2, .bool n3, .slice a3 L3 c3, .bool n4, .slice a4 L4 c4, .bool n5, .slice a5 L5 c5, .bool n6, .slice a6 L6 c6] 43)) (w.heap.size + 1) (.bool n3) (.slice a3 L3 c3) (.bool n4) (.slice a4 L4 c4) := ((Box4.new _ _ _ _ _ _ (by simp)).alloc _).alloc _
  have bC : Box4 ((((w.alloc (.cells #[.bool n1, .slice a1 L1 c1, .bool n2, .slice a2 L2 c2] 43)).alloc (.cells #[.bool n3, .slice a3 L3 c3, .bool n4, .slice a4 L4 c4] 43)).alloc (.cells #[.bool n5, .slice a5 L5 c5, .bool n6, .slice a6 L6 c6] 43)).alloc (.cells #[.bool n1, .slice a1 L1 c1, .bool n2, .slice a2 L2 c2, .bool n3, .slice a3 L3 c3, .bool n4, .slice a4 L4 c4, .bool n5, .slice a5 L5 c5, .bool n6, .slice a6 L6 c6] 43)) (w.heap.size + 1 + 1) (.bool n5) (.slice a5 L5 c5) (.bool n6) (.slice a6 L6 c6) := (Box4.new _ _ _ _ _ _ (by simp)).alloc _
  generalize (((w.alloc (.cells #[.bool n1, .slice a1 L1 c1, .bool n2, .slice a2 L2 c2] 43)).alloc (.cells #[.bool n3, .slice a3 L3 c3, .bool n4, .slice a4 L4 c4] 43)).alloc (.cells #[.bool n5, .slice a5 L5 c5, .bool n6, .slice a6 L6 c6] 43)).alloc (.cells #[.bool n1, .slice a1 L1 c1, .bool n2, .slice a2 L2 c2, .bool n3, .slice a3 L3 c3, .bool n4, .slice a4 L4 c4, .bool n5, .slice a5 L5 c5, .bool n6, .slice a6 L6 c6] 43) = W0 at *
  cases hG : greatR [(L1, L2), (L3, L4), (L5, L6)]
  · obtain ⟨q1, q2⟩ := great_small hG (L1, L2) (List.Mem.head _)
    obtain ⟨q3, q4⟩ := great_small hG (L3, L4) (List.Mem.tail _ (List.Mem.head _))
    obtain ⟨q5, q6⟩ := great_small hG (L5, L6) (List.Mem.tail _ (List.Mem.tail _ (List.Mem.head _)))
    have E : RE W0 W0 [] [] [(Value.agg #[Value.bool false, Value.slice none 0 0, Value.bool false, Value.slice none 0 0], 0, 0), (Value.agg #[Value.bool n5, Value.slice a5 L5 c5, Value.bool n6, Value.slice a6 L6 c6], 6, q), (Value.agg #[Value.bool n3, Value.slice a3 L3 c3, Value.bool n4, Value.slice a4 L4 c4], 6, t), (Value.agg #[Value.bool n1, Value.slice a1 L1 c1, Value.bool n2, Value.slice a2 L2 c2], 6, r)] [] := re_zeroR ((((RE.none W0).knowR ((HX.out 6 q1 q2).below hW0)).knowR ((HY.out 6 q3 q4).below hW0)).knowR ((HZ.out 6 q5 q6).below hW0))
    clear HX HY HZ hG hk1 hk2 hk3 hk4 hk5 hk6 q1 q2 q3 q4 q5 q6
    have lA := bA.lt
    have lB := bB.lt
    have lC := bC.lt
    have f0 : cmpR r t = cmpR r t := rfl
    have f1 := cmpR_turn r t
    have f2 := cmpR_sub r t
    have f3 := cmpR_add r t q
    have f4 := cmpR_mul r t q
    have hb1 := cmpR_b r t
    have hb2 := cmpR_b q 0
    have HFF := hid (show cmpR t r = -cmpR r t ∧ cmpR (r - t) 0 = cmpR r t ∧ cmpR (r + q) (t + q) = cmpR r t ∧ cmpR (r * q) (t * q) = cmpR r t * cmpR q 0 from ⟨f1, f2, f3, f4⟩)
    clear f0 f1 f2 f3 f4
    obtain ⟨x, hx⟩ : ∃ x, cmpR r t = x := ⟨_, rfl⟩
    obtain ⟨s, hs⟩ : ∃ s, cmpR q 0 = s := ⟨_, rfl⟩
    obtain ⟨p, hp⟩ : ∃ p, x * s = p := ⟨_, rfl⟩
    rw [hx, hs, hp] at HFF
    rw [hx] at hb1
    rw [hs] at hb2
    have hpb : -1 ≤ p ∧ p ≤ 1 := by
      rcases (show x = -1 ∨ x = 0 ∨ x = 1 by omega) with h | h | h <;> rcases (show s = -1 ∨ s = 0 ∨ s = 1 by omega) with h' | h' | h' <;> subst h <;> subst h' <;> omega
    have hw1 : IntKind.i64.wrap (-x) = -x := by rw [IntKind.wrap_i64]; omega
    have hw2 : IntKind.i64.wrap (x * s) = p := by rw [hp, IntKind.wrap_i64]; omega
    have HX := hid hx
    have HS := hid hs
    clear hx hs hp hpb hb1 hb2
    obtain ⟨x0, x1, x2, x3, y0, y1, y2, y3, z0, z1, z2, z3⟩ := keep444 bA bB bC (Below.refl _ _)
    go_wp2_with fail
    clear x0 x1 x2 x3 y0 y1 y2 y3 z0 z1 z2 z3
    refine (re_rCmpV E (u := Value.agg #[Value.bool n1, Value.slice a1 L1 c1, Value.bool n2, Value.slice a2 L2 c2]) (v := Value.agg #[Value.bool n3, Value.slice a3 L3 c3, Value.bool n4, Value.slice a4 L4 c4]) (by repeat (first | exact List.Mem.head _ | refine List.Mem.tail _ ?_)) (by repeat (first | exact List.Mem.head _ | refine List.Mem.tail _ ?_)) HX.out (by omega) (by omega)).mono ?_
    rintro e w1 ⟨rfl, En⟩
    clear E
    have E := En.drew
    clear En
    obtain ⟨x0, x1, x2, x3, y0, y1, y2, y3, z0, z1, z2, z3⟩ := keep444 bA bB bC E.bl
    go_wp2_with fail
    clear x0 x1 x2 x3 y0 y1 y2 y3 z0 z1 z2 z3
    go_region_held3 (fun W' => W'.cell? ⟨w.heap.size, 0, none⟩ = some (.bool n1) ∧ W'.cell? ⟨w.heap.size, 1, none⟩ = some (.slice a1 L1 c1) ∧ W'.cell? ⟨w.heap.size, 2, none⟩ = some (.bool n2) ∧ W'.cell? ⟨w.heap.size, 3, none⟩ = some (.slice a2 L2 c2) ∧ W'.cell? ⟨w.heap.size + 1, 0, none⟩ = some (.bool n3) ∧ W'.cell? ⟨w.heap.size + 1, 1, none⟩ = some (.slice a3 L3 c3) ∧ W'.cell? ⟨w.heap.size + 1, 2, none⟩ = some (.bool n4) ∧ W'.cell? ⟨w.heap.size + 1, 3, none⟩ = some (.slice a4 L4 c4) ∧ W'.cell? ⟨w.heap.size + 1 + 1, 0, none⟩ = some (.bool n5) ∧ W'.cell? ⟨w.heap.size + 1 + 1, 1, none⟩ = some (.slice a5 L5 c5) ∧ W'.cell? ⟨w.heap.size + 1 + 1, 2, none⟩ = some (.bool n6) ∧ W'.cell? ⟨w.heap.size + 1 + 1, 3, none⟩ = some (.slice a6 L6 c6)) (exact keep444 bA bB bC E.bl) (first
      | (go_at_call 51; go_must (refine (re_rCmpV E (by repeat (first | exact List.Mem.head _ | refine List.Mem.tail _ ?_)) (by repeat (first | exact List.Mem.head _ | refine List.Mem.tail _ ?_)) (by first | exact HFF.out.1 | exact HFF.out.2.1 | exact HFF.out.2.2.1) (by omega) (by omega)).mono ?_); rintro e wn ⟨rfl, En⟩; clear E; have E := En; clear En)
      | (go_at_call 45; go_must (refine (re_rAdd E (by repeat (first | exact List.Mem.head _ | refine List.Mem.tail _ ?_)) (by repeat (first | exact List.Mem.head _ | refine List.Mem.tail _ ?_)) (by omega) (by omega)).mono ?_); rintro e wn ⟨nn, an, kn, cn, no, ao, ko, co, rfl, En⟩; clear E; have E := En; clear En)
      | (go_at_call 47; go_must (refine (re_rSub E (by repeat (first | exact List.Mem.head _ | refine List.Mem.tail _ ?_)) (by repeat (first | exact List.Mem.head _ | refine List.Mem.tail _ ?_)) (by omega) (by omega)).mono ?_); rintro e wn ⟨nn, an, kn, cn, no, ao, ko, co, rfl, En⟩; clear E; have E := En; clear En))
    have En := E.less (KA' := []) (KI' := []) (KR' := [(Value.agg #[Value.bool false, Value.slice none 0 0, Value.bool false, Value.slice none 0 0], 0, 0), (Value.agg #[Value.bool n5, Value.slice a5 L5 c5, Value.bool n6, Value.slice a6 L6 c6], 6, q), (Value.agg #[Value.bool n3, Value.slice a3 L3 c3, Value.bool n4, Value.slice a4 L4 c4], 6, t), (Value.agg #[Value.bool n1, Value.slice a1 L1 c1, Value.bool n2, Value.slice a2 L2 c2], 6, r)]) (KS' := []) (by simp) (by simp) (by simp) (by simp)
    clear E; have E := En; clear En
    obtain ⟨x0, x1, x2, x3, y0, y1, y2, y3, z0, z1, z2, z3⟩ := keep444 bA bB bC E.bl
    go_wp2_with fail
    clear x0 x1 x2 x3 y0 y1 y2 y3 z0 z1 z2 z3
    refine (re_rCmpV E (u := Value.agg #[Value.bool n5, Value.slice a5 L5 c5, Value.bool n6, Value.slice a6 L6 c6]) (v := Value.agg #[Value.bool false, Value.slice none 0 0, Value.bool false, Value.slice none 0 0]) (by repeat (first | exact List.Mem.head _ | refine List.Mem.tail _ ?_)) (by repeat (first | exact List.Mem.head _ | refine List.Mem.tail _ ?_)) HS.out (by omega) (by omega)).mono ?_
    rintro e w2 ⟨rfl, En⟩
    clear E
    have E := En.drew
    clear En
    go_wp2_with fail
    go_region_held3 (fun W' => W'.cell? ⟨w.heap.size, 0, none⟩ = some (.bool n1) ∧ W'.cell? ⟨w.heap.size, 1, none⟩ = some (.slice a1 L1 c1) ∧ W'.cell? ⟨w.heap.size, 2, none⟩ = some (.bool n2) ∧ W'.cell? ⟨w.heap.size, 3, none⟩ = some (.slice a2 L2 c2) ∧ W'.cell? ⟨w.heap.size + 1, 0, none⟩ = some (.bool n3) ∧ W'.cell? ⟨w.heap.size + 1, 1, none⟩ = some (.slice a3 L3 c3) ∧ W'.cell? ⟨w.heap.size + 1, 2, none⟩ = some (.bool n4) ∧ W'.cell? ⟨w.heap.size + 1, 3, none⟩ = some (.slice a4 L4 c4) ∧ W'.cell? ⟨w.heap.size + 1 + 1, 0, none⟩ = some (.bool n5) ∧ W'.cell? ⟨w.heap.size + 1 + 1, 1, none⟩ = some (.slice a5 L5 c5) ∧ W'.cell? ⟨w.heap.size + 1 + 1, 2, none⟩ = some (.bool n6) ∧ W'.cell? ⟨w.heap.size + 1 + 1, 3, none⟩ = some (.slice a6 L6 c6)) (exact keep444 bA bB bC E.bl) (first
      | (go_at_call 51; go_must (refine (re_rCmpV E (by repeat (first | exact List.Mem.head _ | refine List.Mem.tail _ ?_)) (by repeat (first | exact List.Mem.head _ | refine List.Mem.tail _ ?_)) (by exact HFF.out.2.2.2) (by omega) (by omega)).mono ?_); rintro e wn ⟨rfl, En⟩; clear E; have E := En; clear En)
      | (go_at_call 49; go_must (refine (re_rMul E (by repeat (first | exact List.Mem.head _ | refine List.Mem.tail _ ?_)) (by repeat (first | exact List.Mem.head _ | refine List.Mem.tail _ ?_)) (by omega) (by omega)).mono ?_); rintro e wn ⟨nn, an, kn, cn, no, ao, ko, co, rfl, En⟩; clear E; have E := En; clear En))
    have En := E.less (KA' := []) (KI' := []) (KR' := [(Value.agg #[Value.bool false, Value.slice none 0 0, Value.bool false, Value.slice none 0 0], 0, 0), (Value.agg #[Value.bool n5, Value.slice a5 L5 c5, Value.bool n6, Value.slice a6 L6 c6], 6, q), (Value.agg #[Value.bool n3, Value.slice a3 L3 c3, Value.bool n4, Value.slice a4 L4 c4], 6, t), (Value.agg #[Value.bool n1, Value.slice a1 L1 c1, Value.bool n2, Value.slice a2 L2 c2], 6, r)]) (KS' := []) (by simp) (by simp) (by simp) (by simp)
    clear E; have E := En; clear En
    obtain ⟨x0, x1, x2, x3, y0, y1, y2, y3, z0, z1, z2, z3⟩ := keep444 bA bB bC E.bl
    have hWn := below_call hW0 E.bl hW0.size
    by_cases g1 : 0 < x
    · go_wp2_with fail
      refine (re_awake2 E).mono ?_
      rintro e w8 ⟨rfl, E8⟩
      have HB := hid (below_call hW0 E8.bl hW0.size)
      clear E E8 bA bB bC x0 x1 x2 x3 y0 y1 y2 y3 z0 z1 z2 z3
      go_wp2
      go_ret
      exact ⟨rfl, HB.out⟩
    · go_wp2_with fail
      clear x0 x1 x2 x3 y0 y1 y2 y3 z0 z1 z2 z3
      refine (re_rCmp E (u := Value.agg #[Value.bool n3, Value.slice a3 L3 c3, Value.bool n4, Value.slice a4 L4 c4]) (v := Value.agg #[Value.bool n5, Value.slice a5 L5 c5, Value.bool n6, Value.slice a6 L6 c6]) (by repeat (first | exact List.Mem.head _ | refine List.Mem.tail _ ?_)) (by repeat (first | exact List.Mem.head _ | refine List.Mem.tail _ ?_)) (by omega) (by omega)).mono ?_
      rintro e w7 ⟨rfl, E7⟩
      clear E
      obtain ⟨x0, x1, x2, x3, y0, y1, y2, y3, z0, z1, z2, z3⟩ := keep444 bA bB bC E7.bl
      by_cases g2 : 0 < cmpR t q
      · go_wp2_with fail
        refine (re_awake2 E7).mono ?_
        rintro e w8 ⟨rfl, E8⟩
        have HB := hid (below_call hW0 E8.bl hW0.size)
        clear E7 E8 bA bB bC x0 x1 x2 x3 y0 y1 y2 y3 z0 z1 z2 z3
        go_wp2
        go_ret
        exact ⟨rfl, HB.out⟩
      · have g3 : cmpR r q ≤ 0 := cmpR_on (by rw [HX.out]; omega) (by omega)
        go_wp2_with fail
        clear x0 x1 x2 x3 y0 y1 y2 y3 z0 z1 z2 z3
        refine (re_rCmp E7 (u := Value.agg #[Value.bool n1, Value.slice a1 L1 c1, Value.bool n2, Value.slice a2 L2 c2]) (v := Value.agg #[Value.bool n5, Value.slice a5 L5 c5, Value.bool n6, Value.slice a6 L6 c6]) (by repeat (first | exact List.Mem.head _ | refine List.Mem.tail _ ?_)) (by repeat (first | exact List.Mem.head _ | refine List.Mem.tail _ ?_)) (by omega) (by omega)).mono ?_
        rintro e w8 ⟨rfl, E8⟩
        clear E7
        go_wp2_with fail
        refine (re_awake2 E8).mono ?_
        rintro e w9 ⟨rfl, E9⟩
        have HB := hid (below_call hW0 E9.bl hW0.size)
        clear E8 E9 bA bB bC
        go_wp2
        go_ret
        exact ⟨rfl, HB.out⟩
  · clear hG
    go_wp2_with fail
    refine (awake2_any _).mono ?_
    rintro e w1 ⟨rfl, hb⟩
    have hW1 := below_call hW0 hb hW0.size
    go_wp2
    go_ret
    exact ⟨rfl, hW1⟩

end Go.Proofs.Ytiicjfacekldnaa
