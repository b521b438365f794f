/-
  Walks: the law ExtEnds.
-/
import Derived.Test.YtiicjfacekldnaaXB
namespace Go.Proofs.Ytiicjfacekldnaa
open Go.RowKit Lm
set_option linter.unusedSimpArgs false
set_option linter.unusedVariables false
set_option maxRecDepth 100000

set_option maxHeartbeats 6400000 in
theorem extEnds_any (w : World) (k1 : Int) (n1 : Bool) (a1 : Option Addr) (c1 : Nat) (l1 : List Nat) (n2 : Bool) (a2 : Option Addr) (c2 : Nat) (l2 : List Nat) (k2 : Int) (n3 : Bool) (a3 : Option Addr) (c3 : Nat) (l3 : List Nat) (n4 : Bool) (a4 : Option Addr) (c4 : Nat) (l4 : List Nat) (n5 : Bool) (a5 : Option Addr) (c5 : Nat) (l5 : List Nat) (n6 : Bool) (a6 : Option Addr) (c6 : Nat) (l6 : List Nat) (h1 : SlAt w a1 c1 l1) (h2 : SlAt w a2 c2 l2) (h3 : SlAt w a3 c3 l3) (h4 : SlAt w a4 c4 l4) (h5 : SlAt w a5 c5 l5) (h6 : SlAt w a6 c6 l6) :
    Calls Try.prog 15 #[.agg #[.int .i64 k1, .bool n1, .slice a1 l1.length c1, .bool n2, .slice a2 l2.length c2], .agg #[.int .i64 k2, .bool n3, .slice a3 l3.length c3, .bool n4, .slice a4 l4.length c4], .agg #[.bool n5, .slice a5 l5.length c5, .bool n6, .slice a6 l6.length c6]] w fun e w' => e = .returned (.bool true) ∧ Below w.heap.size w w' := by
  have hk1 := slat_len h1
  have hk2 := slat_len h2
  have hk3 := slat_len h3
  have hk4 := slat_len h4
  have hk5 := slat_len h5
  have hk6 := slat_len h6
  have HX0 := hid (earg_mk (k := k1) (n1 := n1) (n2 := n2) h1 h2)
  have HY0 := hid (earg_mk (k := k2) (n1 := n3) (n2 := n4) h3 h4)
  have HC0 := hid (rarg_mk (n1 := n5) (n2 := n6) h5 h6)
  clear h1 h2 h3 h4 h5 h6
  generalize extMean k1 n1 l1 n2 l2 = x at *
  generalize extMean k2 n3 l3 n4 l4 = y at *
  generalize ratMean n5 l5 n6 l6 = t at *
  generalize l1.length = L1 at *
  generalize l2.length = L2 at *
  generalize l3.length = L3 at *
  generalize l4.length = L4 at *
  generalize l5.length = L5 at *
  generalize l6.length = L6 at *
  go_enter Try.func15, Try.ntmps15
  go_wp2_with fail
  refine (great_x2 _ _ k1 k2 n1 n2 n3 n4 a1 a2 a3 a4 L1 c1 L2 c2 L3 c3 L4 c4 (by simp) hk1 hk2 hk3 hk4).mono ?_
  rintro e W0 ⟨rfl, hb0⟩
  have hWl : Below w.heap.size w ((((w.alloc (.cells #[.int .i64 k1, .bool n1, .slice a1 L1 c1, .bool n2, .slice a2 L2 c2] 63)).alloc (.cells #[.int .i64 k2, .bool n3, .slice a3 L3 c3, .bool n4, .slice a4 L4 c4] 63)).alloc (.cells #[.bool n5, .slice a5 L5 c5, .bool n6, .slice a6 L6 c6] 43)).alloc (.cells #[.int .i64 k1, .bool n1, .slice a1 L1 c1, .bool n2, .slice a2 L2 c2, .int .i64 k2, .bool n3, .slice a3 L3 c3, .bool n4, .slice a4 L4 c4] 63)) := (by repeat (first | exact Below.refl _ _ | refine Below.alloc ?_ ?_ _ | refine Below.setCell ?_ ?_ _ | refine Below.drew ?_ | refine below_drewN ?_ _ | (· simp) | omega | (· simp; omega) | exact Below.size (by assumption) | assumption | refine below_call ?_ (by assumption) ?_))
  have hW0 := below_call hWl hb0 hWl.size
  have bA : Box5 W0 w.heap.size (.int .i64 k1) (.bool n1) (.slice a1 L1 c1) (.bool n2) (.slice a2 L2 c2) := ((((Box5.new _ _ _ _ _ _ _ rfl).alloc _).alloc _).alloc _).keep hb0
  have bB : Box5 W0 (w.heap.size + 1) (.int .i64 k2) (.bool n3) (.slice a3 L3 c3) (.bool n4) (.slice a4 L4 c4) := (((Box5.new _ _ _ _ _ _ _ (by simp)).alloc _).alloc _).keep hb0
  have bC : Box4 W0 (w.heap.size + 1 + 1) (.bool n5) (.slice a5 L5 c5) (.bool n6) (.slice a6 L6 c6) := ((Box4.new _ _ _ _ _ _ (by simp)).alloc _).keep hb0
  clear hb0 hWl
  obtain ⟨z0, z1, z2, z3⟩ := bC.c
  have zl := bC.lt
  cases hG : greatR [(L1, L2), (L3, L4)]
  · obtain ⟨q1, q2⟩ := great_small hG (L1, L2) (List.Mem.head _)
    obtain ⟨q3, q4⟩ := great_small hG (L3, L4) (List.Mem.tail _ (List.Mem.head _))
    have HX := hid ((HX0.out 6 q1 q2).below hW0)
    have HY := hid ((HY0.out 6 q3 q4).below hW0)
    clear HX0 HY0 hG hk1 hk2 hk3 hk4 q1 q2 q3 q4
    go_wp2_with fail
    refine (great_r1 _ _ n5 n6 a5 a6 L5 c5 L6 c6 (by simp) hk5 hk6).mono ?_
    rintro e w1 ⟨rfl, rfl⟩
    have hst : Below W0.heap.size W0 (W0.alloc (.cells #[.bool n5, .slice a5 L5 c5, .bool n6, .slice a6 L6 c6] 43)) := (Below.refl _ _).alloc (Nat.le_refl _) _
    have hW1 := below_call hW0 hst hW0.size
    have HC1 : Hid (∀ n, L5 ≤ n → L6 ≤ n → RArg (W0.alloc (.cells #[.bool n5, .slice a5 L5 c5, .bool n6, .slice a6 L6 c6] 43)) (Value.agg #[Value.bool n5, Value.slice a5 L5 c5, Value.bool n6, Value.slice a6 L6 c6]) n t) := hid (fun n p q => (HC0.out n p q).below hW1)
    replace bA := bA.keep hst
    replace bB := bB.keep hst
    replace bC := bC.keep hst
    replace HX := hid (HX.out.below hst)
    replace HY := hid (HY.out.below hst)
    clear HC0 hst hW0 z0 z1 z2 z3
    cases hG : greatR [(L5, L6)]
    · obtain ⟨q5, q6⟩ := great_small hG (L5, L6) (List.Mem.head _)
      have HC := hid (HC1.out 6 q5 q6)
      clear HC1 hG hk5 hk6 q5 q6
      have E0 : XE (W0.alloc (.cells #[.bool n5, .slice a5 L5 c5, .bool n6, .slice a6 L6 c6] 43)) (W0.alloc (.cells #[.bool n5, .slice a5 L5 c5, .bool n6, .slice a6 L6 c6] 43)) [(Value.agg #[Value.bool n5, Value.slice a5 L5 c5, Value.bool n6, Value.slice a6 L6 c6], 6, t)] [(Value.agg #[Value.int .i64 1, Value.bool false, Value.slice none 0 0, Value.bool false, Value.slice none 0 0], 0, .hi), (Value.agg #[Value.int .i64 (-1), Value.bool false, Value.slice none 0 0, Value.bool false, Value.slice none 0 0], 0, .lo), (Value.agg #[Value.int .i64 k2, Value.bool n3, Value.slice a3 L3 c3, Value.bool n4, Value.slice a4 L4 c4], 6, y), (Value.agg #[Value.int .i64 k1, Value.bool n1, Value.slice a1 L1 c1, Value.bool n2, Value.slice a2 L2 c2], 6, x)] [(Value.agg #[Value.int .i64 1, Value.bool false, Value.slice none 0 0, Value.bool false, Value.slice none 0 0], 0, .hi), (Value.agg #[Value.int .i64 (-1), Value.bool false, Value.slice none 0 0, Value.bool false, Value.slice none 0 0], 0, .lo)] := (((((xe_none _).knowR HC.out).knowE HX.out).knowE HY.out).knowF (ef_lo _ 0)).knowF (ef_hi _ 0)
      have E1 := (E0.alloc (.cells #[.int .i64 (-1), .bool false, .slice none 0 0, .bool false, .slice none 0 0] 63)).alloc (.cells #[.int .i64 1, .bool false, .slice none 0 0, .bool false, .slice none 0 0] 63)
      have bL : Box5 (((W0.alloc (.cells #[.bool n5, .slice a5 L5 c5, .bool n6, .slice a6 L6 c6] 43)).alloc (.cells #[.int .i64 (-1), .bool false, .slice none 0 0, .bool false, .slice none 0 0] 63)).alloc (.cells #[.int .i64 1, .bool false, .slice none 0 0, .bool false, .slice none 0 0] 63)) (W0.alloc (.cells #[.bool n5, .slice a5 L5 c5, .bool n6, .slice a6 L6 c6] 43)).heap.size (.int .i64 (-1)) (.bool false) (.slice none 0 0) (.bool false) (.slice none 0 0) := (Box5.new _ _ _ _ _ _ _ rfl).alloc _
      have bH : Box5 (((W0.alloc (.cells #[.bool n5, .slice a5 L5 c5, .bool n6, .slice a6 L6 c6] 43)).alloc (.cells #[.int .i64 (-1), .bool false, .slice none 0 0, .bool false, .slice none 0 0] 63)).alloc (.cells #[.int .i64 1, .bool false, .slice none 0 0, .bool false, .slice none 0 0] 63)) ((W0.alloc (.cells #[.bool n5, .slice a5 L5 c5, .bool n6, .slice a6 L6 c6] 43)).heap.size + 1) (.int .i64 1) (.bool false) (.slice none 0 0) (.bool false) (.slice none 0 0) := Box5.new _ _ _ _ _ _ _ (by simp)
      have bA1 := bA.keep E1.bl
      have bB1 := bB.keep E1.bl
      have bC1 := bC.keep E1.bl
      have hW2 := below_call hW1 E1.bl hW1.size
      replace E1 := E1.rebase
      simp only [asize] at bL bH
      clear E0 bA bB bC hW1 HX HY HC zl
      go_wp2_with fail
      generalize ((W0.alloc (.cells #[.bool n5, .slice a5 L5 c5, .bool n6, .slice a6 L6 c6] 43)).alloc (.cells #[.int .i64 (-1), .bool false, .slice none 0 0, .bool false, .slice none 0 0] 63)).alloc (.cells #[.int .i64 1, .bool false, .slice none 0 0, .bool false, .slice none 0 0] 63) = W2 at *
      generalize W0.heap.size + 1 = gL at *
      have E := E1.drew
      clear E1
      have hlo := cmpE_low x
      have hhi := cmpE_high x
      have HAD := hid (cmpE_add x y t)
      go_region_held3 (fun W' => (W'.cell? ⟨w.heap.size, 0, none⟩ = some (.int .i64 k1) ∧ W'.cell? ⟨w.heap.size, 1, none⟩ = some (.bool n1) ∧ W'.cell? ⟨w.heap.size, 2, none⟩ = some (.slice a1 L1 c1) ∧ W'.cell? ⟨w.heap.size, 3, none⟩ = some (.bool n2) ∧ W'.cell? ⟨w.heap.size, 4, none⟩ = some (.slice a2 L2 c2) ∧ W'.cell? ⟨w.heap.size + 1, 0, none⟩ = some (.int .i64 k2) ∧ W'.cell? ⟨w.heap.size + 1, 1, none⟩ = some (.bool n3) ∧ W'.cell? ⟨w.heap.size + 1, 2, none⟩ = some (.slice a3 L3 c3) ∧ W'.cell? ⟨w.heap.size + 1, 3, none⟩ = some (.bool n4) ∧ W'.cell? ⟨w.heap.size + 1, 4, none⟩ = some (.slice a4 L4 c4)) ∧ (W'.cell? ⟨w.heap.size + 1 + 1, 0, none⟩ = some (.bool n5) ∧ W'.cell? ⟨w.heap.size + 1 + 1, 1, none⟩ = some (.slice a5 L5 c5) ∧ W'.cell? ⟨w.heap.size + 1 + 1, 2, none⟩ = some (.bool n6) ∧ W'.cell? ⟨w.heap.size + 1 + 1, 3, none⟩ = some (.slice a6 L6 c6)) ∧ (W'.cell? ⟨gL, 0, none⟩ = some (.int .i64 (-1)) ∧ W'.cell? ⟨gL, 1, none⟩ = some (.bool false) ∧ W'.cell? ⟨gL, 2, none⟩ = some (.slice none 0 0) ∧ W'.cell? ⟨gL, 3, none⟩ = some (.bool false) ∧ W'.cell? ⟨gL, 4, none⟩ = some (.slice none 0 0) ∧ W'.cell? ⟨gL + 1, 0, none⟩ = some (.int .i64 1) ∧ W'.cell? ⟨gL + 1, 1, none⟩ = some (.bool false) ∧ W'.cell? ⟨gL + 1, 2, none⟩ = some (.slice none 0 0) ∧ W'.cell? ⟨gL + 1, 3, none⟩ = some (.bool false) ∧ W'.cell? ⟨gL + 1, 4, none⟩ = some (.slice none 0 0))) (exact ⟨keep55 bA1 bB1 E.bl, (bC1.keep E.bl).c, keep55 bL bH E.bl⟩) (first
        | (go_at_call 58; (first | (refine (xe_cmpV E (by repeat (first | exact List.Mem.head _ | refine List.Mem.tail _ ?_)) (by repeat (first | exact List.Mem.head _ | refine List.Mem.tail _ ?_)) HAD.out (by omega) (by omega)).mono ?_) | (refine (xe_cmp E (by repeat (first | exact List.Mem.head _ | refine List.Mem.tail _ ?_)) (by repeat (first | exact List.Mem.head _ | refine List.Mem.tail _ ?_)) (by omega) (by omega)).mono ?_)); rintro e wn ⟨rfl, En⟩; clear E; have E := En; clear En)
        | (go_at_call 62; go_must (refine (xe_add E (by repeat (first | exact List.Mem.head _ | refine List.Mem.tail _ ?_)) (by repeat (first | exact List.Mem.head _ | refine List.Mem.tail _ ?_)) (by omega) (by omega)).mono ?_); rintro e wn ⟨nn, an, kn, cn, no, ao, ko, co, rfl, En⟩; clear E; have E := En; clear En)
        | (go_at_call 61; go_must (refine (xe_same E (by repeat (first | exact List.Mem.head _ | refine List.Mem.tail _ ?_)) (by repeat (first | exact List.Mem.head _ | refine List.Mem.tail _ ?_)) (by rfl)).mono ?_); rintro e wn ⟨rfl, En⟩; clear E; have E := En; clear En)
        | (go_at_call 57; go_must (refine (xe_awake E).mono ?_); rintro e wn ⟨rfl, En⟩; clear E; have E := En; clear En))
      have HB := hid (below_call hW2 E.bl hW2.size)
      clear E bA1 bB1 bC1 bL bH
      go_wp2
      go_ret
      exact ⟨rfl, HB.out⟩
    · clear hG
      go_wp2_with fail
      refine (awake3_any _).mono ?_
      rintro e w1 ⟨rfl, hb⟩
      have hW2 := below_call hW1 hb hW1.size
      go_wp2
      go_ret
      exact ⟨rfl, hW2⟩
  · clear hG
    go_wp2_with fail
    refine (awake3_any _).mono ?_
    rintro e w1 ⟨rfl, hb⟩
    have hW1 := below_call hW0 hb hW0.size
    clear z0 z1 z2 z3 zl
    go_wp2
    go_ret
    exact ⟨rfl, hW1⟩

end Go.Proofs.Ytiicjfacekldnaa
