/-
  Walks: the law RatForms.
-/
import Derived.Test.YtiicjfacekldnaaD3
import Derived.Test.YtiicjfacekldnaaG5a
namespace Go.Proofs.Ytiicjfacekldnaa
open Go.RowKit Lm
set_option linter.unusedSimpArgs false
set_option linter.unusedVariables false
set_option maxRecDepth 100000

set_option maxHeartbeats 3200000 in
theorem sameZero_any (w : World) :
    Calls Try.prog 40 #[.agg #[.bool false, .slice none 0 0, .bool false, .slice none 0 0], .agg #[.bool false, .slice none 0 0, .bool false, .slice none 0 0]] w fun e w' => e = .returned (.bool true) ∧ Below w.heap.size w w' := by
  go_enter Try.func40, Try.ntmps40
  go_wp2_with fail
  have hW0 : Below w.heap.size w ((w.alloc (.cells #[.bool false, .slice none 0 0, .bool false, .slice none 0 0] 43)).alloc (.cells #[.bool false, .slice none 0 0, .bool false, .slice none 0 0] 43)) := (by repeat (first | exact Below.refl _ _ | refine Below.alloc ?_ ?_ _ | refine Below.setCell ?_ ?_ _ | refine Below.drew ?_ | refine below_drewN ?_ _ | (· simp) | omega | (· simp; omega) | exact Below.size (by assumption) | assumption | refine below_call ?_ (by assumption) ?_))
  have bA : Box4 ((w.alloc (.cells #[.bool false, .slice none 0 0, .bool false, .slice none 0 0] 43)).alloc (.cells #[.bool false, .slice none 0 0, .bool false, .slice none 0 0] 43)) w.heap.size (.bool false) (.slice none 0 0) (.bool false) (.slice none 0 0) := (Box4.new _ _ _ _ _ _ rfl).alloc _
  have bB : Box4 ((w.alloc (.cells #[.bool false, .slice none 0 0, .bool false, .slice none 0 0] 43)).alloc (.cells #[.bool false, .slice none 0 0, .bool false, .slice none 0 0] 43)) (w.heap.size + 1) (.bool false) (.slice none 0 0) (.bool false) (.slice none 0 0) := Box4.new _ _ _ _ _ _ (by simp)
  generalize ((w.alloc (.cells #[.bool false, .slice none 0 0, .bool false, .slice none 0 0] 43)).alloc (.cells #[.bool false, .slice none 0 0, .bool false, .slice none 0 0] 43)) = W0 at *
  refine (same_num _ _ _ 0 0 0 0 0 0 (is_zero _) (is_zero _)).mono ?_
  rintro e w1 ⟨rfl, hb1⟩
  have hW1 := below_call hW0 hb1 hW0.size
  obtain ⟨x0, x1, x2, x3, y0, y1, y2, y3⟩ := keep44 bA bB hb1
  have lA := (bA.keep hb1).lt
  have lB := (bB.keep hb1).lt
  clear hb1 bA bB hW0
  rw [decide_eq_true (rfl : (0 : Int) = 0)]
  go_wp2_with fail
  refine (same_num _ _ _ 0 0 0 0 0 0 (is_zero _) (is_zero _)).mono ?_
  rintro e w2 ⟨rfl, hb2⟩
  have hW2 := below_call hW1 hb2 hW1.size
  clear hb2 x0 x1 x2 x3 y0 y1 y2 y3
  rw [decide_eq_true (rfl : (0 : Int) = 0)]
  go_wp2
  go_ret
  exact ⟨rfl, hW2⟩

section
variable {U W W' : World} {KA KI : List (Value × Nat × Int)} {KR KS : List (Value × Nat × Rat)} {u v : Value} {n m : Nat} {x y : Int} {r t : Rat}
theorem re_rquo (E : RE U W KA KI KR KS) (hu : (u, n, x) ∈ KA) (hv : (v, m, y) ∈ KA) (hy : y ≠ 0) (hn : n ≤ 50000) (hm : m ≤ 50000) : Calls Try.prog 37 #[u, v] W (SaysE U KA KI KR KS (n + m) (Rat.divInt x y)) := by
  refine (rquo_any W u v n m x y (E.a _ hu) (E.a _ hv) hy hn hm).mono ?_
  rintro e w' ⟨n1, a1, k1, c1, n2, a2, k2, c2, rfl, hI, hb⟩
  exact ⟨n1, a1, k1, c1, n2, a2, k2, c2, rfl, (E.step hb).knowS hI⟩
theorem re_rquoz (E : RE U W KA KI KR KS) (hu : (u, n, x) ∈ KA) (hv : (v, m, y) ∈ KA) (hy : y = 0) (hn : n ≤ 50000) (hm : m ≤ 50000) : Calls Try.prog 37 #[u, v] W fun e w' => e = .returned (.tuple #[.agg #[.bool false, .slice none 0 0, .bool false, .slice none 0 0], .int .i64 11]) ∧ RE U w' KA KI KR KS := by
  refine (rquo_zero W u v n m x y (E.a _ hu) (E.a _ hv) hy hn hm).mono ?_
  rintro e w' ⟨rfl, hb⟩
  exact ⟨rfl, E.step hb⟩
theorem re_ofRat (E : RE U W KA KI KR KS) (x : Int) (h1 : -9223372036854775808 ≤ x) (h2 : x ≤ 9223372036854775807) : Calls Try.prog 42 #[.int .i64 x] W (SaysQ U KA KI KR KS 2 (x : Rat)) :=
  (ofRat_any W x h1 h2).mono fun _ _ h => saysQ_of E h
end

set_option maxHeartbeats 6400000 in
theorem ratForms_any (w : World) (n1 : Bool) (a1 : Option Addr) (c1 : Nat) (l1 : List Nat) (n2 : Bool) (a2 : Option Addr) (c2 : Nat) (l2 : List Nat) (n3 : Bool) (a3 : Option Addr) (c3 : Nat) (l3 : List Nat) (n4 : Bool) (a4 : Option Addr) (c4 : Nat) (l4 : List Nat) (z : Int) (h1 : SlAt w a1 c1 l1) (h2 : SlAt w a2 c2 l2) (h3 : SlAt w a3 c3 l3) (h4 : SlAt w a4 c4 l4) (hz1 : -9223372036854775808 ≤ z) (hz2 : z ≤ 9223372036854775807) :
    Calls Try.prog 6 #[.agg #[.bool n1, .slice a1 l1.length c1, .bool n2, .slice a2 l2.length c2], .agg #[.bool n3, .slice a3 l3.length c3], .agg #[.bool n4, .slice a4 l4.length c4], .int .i64 z] w fun e w' => e = .returned (.bool true) ∧ Below w.heap.size w w' := by
  have hk1 := slat_len h1
  have hk2 := slat_len h2
  have hk3 := slat_len h3
  have hk4 := slat_len h4
  have HMA0 : Hid (l1.length ≤ 6 → l2.length ≤ 6 → ∀ W, Below w.heap.size w W → Calls Try.prog 38 #[.agg #[.bool n1, .slice a1 l1.length c1, .bool n2, .slice a2 l2.length c2]] W fun e w' => e = .returned (.bool (ratMayB n1 l1 n2 l2)) ∧ Below W.heap.size W w') := hid (fun q1 q2 W hW => ratMay_any W n1 n2 _ _ l1 l2 ⟨a1, c1, rfl, h1.below hW⟩ ⟨a2, c2, rfl, h2.below hW⟩ (by omega) (by omega))
  have HMB0 : Hid (l1.length ≤ 6 → l2.length ≤ 6 → ∀ W, Below w.heap.size w W → Calls Try.prog 39 #[.agg #[.bool n1, .slice a1 l1.length c1, .bool n2, .slice a2 l2.length c2]] W fun e w' => e = .returned (.bool (ratMayB n1 l1 n2 l2)) ∧ Below W.heap.size W w') := hid (fun q1 q2 W hW => rmayRat_any W n1 n2 a1 a2 c1 c2 l1 l2 (h1.below hW) (h2.below hW) (by omega) (by omega))
  have X := hid (arg_mk (neg := n3) h3)
  have Y := hid (arg_mk (neg := n4) h4)
  clear h1 h2 h3 h4
  generalize ratMayB n1 l1 n2 l2 = mb at *
  generalize mean n3 l3 = x at *
  generalize mean n4 l4 = y at *
  generalize l1.length = L1 at *
  generalize l2.length = L2 at *
  generalize l3.length = L3 at *
  generalize l4.length = L4 at *
  go_enter Try.func6, Try.ntmps6
  go_wp2_with fail
  refine (great_r1 _ _ n1 n2 a1 a2 L1 c1 L2 c2 (by simp) hk1 hk2).mono ?_
  rintro e w0 ⟨rfl, rfl⟩
  have hW0 : Below w.heap.size w ((((w.alloc (.cells #[.bool n1, .slice a1 L1 c1, .bool n2, .slice a2 L2 c2] 43)).alloc (.cells #[.bool n3, .slice a3 L3 c3] 24)).alloc (.cells #[.bool n4, .slice a4 L4 c4] 24)).alloc (.cells #[.bool n1, .slice a1 L1 c1, .bool n2, .slice a2 L2 c2] 43)) := (by repeat (first | exact Below.refl _ _ | refine Below.alloc ?_ ?_ _ | refine Below.setCell ?_ ?_ _ | refine Below.drew ?_ | refine below_drewN ?_ _ | (· simp) | omega | (· simp; omega) | exact Below.size (by assumption) | assumption | refine below_call ?_ (by assumption) ?_))
  have bA : Box4 ((((w.alloc (.cells #[.bool n1, .slice a1 L1 c1, .bool n2, .slice a2 L2 c2] 43)).alloc (.cells #[.bool n3, .slice a3 L3 c3] 24)).alloc (.cells #[.bool n4, .slice a4 L4 c4] 24)).alloc (.cells #[.bool n1, .slice a1 L1 c1, .bool n2, .slice a2 L2 c2] 43)) w.heap.size (.bool n1) (.slice a1 L1 c1) (.bool n2) (.slice a2 L2 c2) := (((Box4.new _ _ _ _ _ _ rfl).alloc _).alloc _).alloc _
  have bP : Box ((((w.alloc (.cells #[.bool n1, .slice a1 L1 c1, .bool n2, .slice a2 L2 c2] 43)).alloc (.cells #[.bool n3, .slice a3 L3 c3] 24)).alloc (.cells #[.bool n4, .slice a4 L4 c4] 24)).alloc (.cells #[.bool n1, .slice a1 L1 c1, .bool n2, .slice a2 L2 c2] 43)) (w.heap.size + 1) (.bool n3) (.slice a3 L3 c3) := ((Box.new _ _ _ _ (by simp)).alloc _).alloc _
  have bQ : Box ((((w.alloc (.cells #[.bool n1, .slice a1 L1 c1, .bool n2, .slice a2 L2 c2] 43)).alloc (.cells #[.bool n3, .slice a3 L3 c3] 24)).alloc (.cells #[.bool n4, .slice a4 L4 c4] 24)).alloc (.cells #[.bool n1, .slice a1 L1 c1, .bool n2, .slice a2 L2 c2] 43)) (w.heap.size + 1 + 1) (.bool n4) (.slice a4 L4 c4) := (Box.new _ _ _ _ (by simp)).alloc _
  generalize (((w.alloc (.cells #[.bool n1, .slice a1 L1 c1, .bool n2, .slice a2 L2 c2] 43)).alloc (.cells #[.bool n3, .slice a3 L3 c3] 24)).alloc (.cells #[.bool n4, .slice a4 L4 c4] 24)).alloc (.cells #[.bool n1, .slice a1 L1 c1, .bool n2, .slice a2 L2 c2] 43) = W0 at *
  have x0 := bP.c0
  have x1 := bP.c1
  have y0 := bQ.c0
  have y1 := bQ.c1
  cases hG : greatR [(L1, L2)]
  · obtain ⟨q1, q2⟩ := great_small hG (L1, L2) (List.Mem.head _)
    clear hG
    by_cases h3 : 8 < L3
    · have h3i : (8 : Int) < (L3 : Int) := by omega
      go_wp2_with fail
      refine (awake2_any _).mono ?_
      rintro e w1 ⟨rfl, hb⟩
      have hW1 := below_call hW0 hb hW0.size
      (try clear x0 x1 y0 y1)
      go_wp2
      go_ret
      exact ⟨rfl, hW1⟩
    · have h3i : ¬ (8 : Int) < (L3 : Int) := by omega
      by_cases h4 : 8 < L4
      · have h4i : (8 : Int) < (L4 : Int) := by omega
        go_wp2_with fail
        refine (awake2_any _).mono ?_
        rintro e w1 ⟨rfl, hb⟩
        have hW1 := below_call hW0 hb hW0.size
        (try clear x0 x1 y0 y1)
        go_wp2
        go_ret
        exact ⟨rfl, hW1⟩
      · have h4i : ¬ (8 : Int) < (L4 : Int) := by omega
        have HMA := hid (HMA0.out q1 q2)
        have HMB := hid (HMB0.out q1 q2)
        have E : RE W0 W0 [(.agg #[.bool n4, .slice a4 L4 c4], L4, y), (.agg #[.bool n3, .slice a3 L3 c3], L3, x)] [] [] [] := ((RE.none W0).know (X.out.below hW0)).know (Y.out.below hW0)
        clear HMA0 HMB0 X Y hk1 hk2 hk3 hk4
        obtain ⟨x2, -, -, -⟩ := bA.c
        have x3 := x2
        by_cases hy : y = 0
        · have HY0 := hid hy
          clear hy
          go_wp2_with fail
          clear x0 x1 x2 x3 y0 y1
          refine (re_quoz E (u := .agg #[.bool n3, .slice a3 L3 c3]) (v := .agg #[.bool n4, .slice a4 L4 c4]) (x := x) (y := y) (by repeat (first | exact List.Mem.head _ | refine List.Mem.tail _ ?_)) (by repeat (first | exact List.Mem.head _ | refine List.Mem.tail _ ?_)) HY0.out).mono ?_
          rintro e u1 ⟨rfl, E1⟩
          clear E
          have E2 := E1.alloc (.cells #[.bool false, .slice none 0 0, .bool false, .slice none 0 0] 43)
          have bX : Box4 (u1.alloc (.cells #[.bool false, .slice none 0 0, .bool false, .slice none 0 0] 43)) u1.heap.size (.bool false) (.slice none 0 0) (.bool false) (.slice none 0 0) := Box4.new _ _ _ _ _ _ rfl
          have bA2 := bA.keep E2.bl
          have bP2 := bP.keep E2.bl
          have bQ2 := bQ.keep E2.bl
          have hW2 := below_call hW0 E2.bl hW0.size
          have x0 := (bP.keep E1.bl).c0
          have x1 := (bP.keep E1.bl).c1
          have y0 := (bQ.keep E1.bl).c0
          have y1 := (bQ.keep E1.bl).c1
          have lP := (bP.keep E1.bl).lt
          have lQ := (bQ.keep E1.bl).lt
          replace E2 := E2.rebase
          clear E1 bA bP bQ hW0
          go_wp2_with fail
          clear x0 x1 y0 y1 lP lQ
          generalize u1.alloc (.cells #[.bool false, .slice none 0 0, .bool false, .slice none 0 0] 43) = U2 at *
          generalize u1.heap.size = gX at *
          refine (re_rquoz E2 (u := .agg #[.bool n3, .slice a3 L3 c3]) (v := .agg #[.bool n4, .slice a4 L4 c4]) (x := x) (y := y) (by repeat (first | exact List.Mem.head _ | refine List.Mem.tail _ ?_)) (by repeat (first | exact List.Mem.head _ | refine List.Mem.tail _ ?_)) HY0.out (by omega) (by omega)).mono ?_
          rintro e u3 ⟨rfl, E3⟩
          clear E2
          have E4 := E3.alloc (.cells #[.bool false, .slice none 0 0, .bool false, .slice none 0 0] 43)
          have bY : Box4 (u3.alloc (.cells #[.bool false, .slice none 0 0, .bool false, .slice none 0 0] 43)) u3.heap.size (.bool false) (.slice none 0 0) (.bool false) (.slice none 0 0) := Box4.new _ _ _ _ _ _ rfl
          have bA4 := bA2.keep E4.bl
          have bX4 := bX.keep E4.bl
          have hW4 := below_call hW2 E4.bl hW2.size
          have lA3 := (bA2.keep E3.bl).lt
          have lX3 := (bX.keep E3.bl).lt
          obtain ⟨x0, x1, x2, x3, y0, y1, y2, y3⟩ := keep44 (bA2.keep E3.bl) (bX.keep E3.bl) (Below.refl _ _)
          replace E4 := E4.rebase
          clear E3 bA2 bP2 bQ2 bX hW2
          go_wp2_with fail
          clear x0 x1 x2 x3 y0 y1 y2 y3 lA3 lX3
          generalize u3.alloc (.cells #[.bool false, .slice none 0 0, .bool false, .slice none 0 0] 43) = U4 at *
          generalize u3.heap.size = gY at *
          have E := E4.drew
          clear E4
          go_region_held3 (fun W' => W'.cell? ⟨w.heap.size, 0, none⟩ = some (.bool n1) ∧ W'.cell? ⟨w.heap.size, 1, none⟩ = some (.slice a1 L1 c1) ∧ W'.cell? ⟨w.heap.size, 2, none⟩ = some (.bool n2) ∧ W'.cell? ⟨w.heap.size, 3, none⟩ = some (.slice a2 L2 c2) ∧ W'.cell? ⟨gX, 0, none⟩ = some (.bool false) ∧ W'.cell? ⟨gX, 1, none⟩ = some (.slice none 0 0) ∧ W'.cell? ⟨gX, 2, none⟩ = some (.bool false) ∧ W'.cell? ⟨gX, 3, none⟩ = some (.slice none 0 0) ∧ W'.cell? ⟨gY, 0, none⟩ = some (.bool false) ∧ W'.cell? ⟨gY, 1, none⟩ = some (.slice none 0 0) ∧ W'.cell? ⟨gY, 2, none⟩ = some (.bool false) ∧ W'.cell? ⟨gY, 3, none⟩ = some (.slice none 0 0)) (exact keep444 bA4 bX4 bY E.bl) (first
            | (go_at_call 38; go_must (refine (HMA.out _ (by exact below_call hW4 E.bl hW4.size)).mono ?_); rintro e wn ⟨rfl, hbn⟩; have En := E.step hbn; clear hbn; clear E; have E := En; clear En)
            | (go_at_call 39; go_must (refine (HMB.out _ (by exact below_call hW4 E.bl hW4.size)).mono ?_); rintro e wn ⟨rfl, hbn⟩; have En := E.step hbn; clear hbn; clear E; have E := En; clear En)
            | (go_at_call_of 40 (Value.agg #[Value.bool false, Value.slice none 0 0, Value.bool false, Value.slice none 0 0]); go_must (refine (sameZero_any _).mono ?_); rintro e wn ⟨rfl, hbn⟩; have En := E.step hbn; clear hbn; clear E; have E := En; clear En)
            | (go_at_call 40; go_must (refine (re_sameRatE E (by repeat (first | exact List.Mem.head _ | refine List.Mem.tail _ ?_)) (by repeat (first | exact List.Mem.head _ | refine List.Mem.tail _ ?_)) (by rfl)).mono ?_); rintro e wn ⟨rfl, En⟩; clear E; have E := En; clear En)
            | (go_at_call 23; go_must (refine (re_num E _).mono ?_); rintro e wn ⟨rfl, En⟩; clear E; have E := En; clear En)
            | (go_at_call 41; go_must (refine (re_ratOf E _ hz1 hz2).mono ?_); rintro e wn ⟨nn, an, kn, cn, no, ao, ko, co, rfl, En⟩; clear E; have E := En; clear En)
            | (go_at_call 42; go_must (refine (re_ofRat E _ hz1 hz2).mono ?_); rintro e wn ⟨nn, an, kn, cn, no, ao, ko, co, rfl, En⟩; clear E; have E := En; clear En)
            | (go_at_call 35; go_must (refine (re_awake2 E).mono ?_); rintro e wn ⟨rfl, En⟩; clear E; have E := En; clear En))
          have HB := hid (below_call hW4 E.bl hW4.size)
          clear E bA4 bX4 bY
          go_wp2
          go_ret
          exact ⟨rfl, HB.out⟩
        · have HY0 := hid hy
          clear hy
          go_wp2_with fail
          clear x0 x1 x2 x3 y0 y1
          refine (re_quo E (u := .agg #[.bool n3, .slice a3 L3 c3]) (v := .agg #[.bool n4, .slice a4 L4 c4]) (x := x) (y := y) (by repeat (first | exact List.Mem.head _ | refine List.Mem.tail _ ?_)) (by repeat (first | exact List.Mem.head _ | refine List.Mem.tail _ ?_)) HY0.out (by omega) (by omega)).mono ?_
          rintro e u1 ⟨m1, p1, j1, d1, m2, p2, j2, d2, rfl, E1⟩
          clear E
          have E2 := E1.alloc (.cells #[.bool m1, .slice p1 j1 d1, .bool m2, .slice p2 j2 d2] 43)
          have bX : Box4 (u1.alloc (.cells #[.bool m1, .slice p1 j1 d1, .bool m2, .slice p2 j2 d2] 43)) u1.heap.size (.bool m1) (.slice p1 j1 d1) (.bool m2) (.slice p2 j2 d2) := Box4.new _ _ _ _ _ _ rfl
          have bA2 := bA.keep E2.bl
          have bP2 := bP.keep E2.bl
          have bQ2 := bQ.keep E2.bl
          have hW2 := below_call hW0 E2.bl hW0.size
          have x0 := (bP.keep E1.bl).c0
          have x1 := (bP.keep E1.bl).c1
          have y0 := (bQ.keep E1.bl).c0
          have y1 := (bQ.keep E1.bl).c1
          have lP := (bP.keep E1.bl).lt
          have lQ := (bQ.keep E1.bl).lt
          replace E2 := E2.rebase
          clear E1 bA bP bQ hW0
          go_wp2_with fail
          clear x0 x1 y0 y1 lP lQ
          generalize u1.alloc (.cells #[.bool m1, .slice p1 j1 d1, .bool m2, .slice p2 j2 d2] 43) = U2 at *
          generalize u1.heap.size = gX at *
          refine (re_rquo E2 (u := .agg #[.bool n3, .slice a3 L3 c3]) (v := .agg #[.bool n4, .slice a4 L4 c4]) (x := x) (y := y) (by repeat (first | exact List.Mem.head _ | refine List.Mem.tail _ ?_)) (by repeat (first | exact List.Mem.head _ | refine List.Mem.tail _ ?_)) HY0.out (by omega) (by omega)).mono ?_
          rintro e u3 ⟨m3, p3, j3, d3, m4, p4, j4, d4, rfl, E3⟩
          clear E2
          have E4 := E3.alloc (.cells #[.bool m3, .slice p3 j3 d3, .bool m4, .slice p4 j4 d4] 43)
          have bY : Box4 (u3.alloc (.cells #[.bool m3, .slice p3 j3 d3, .bool m4, .slice p4 j4 d4] 43)) u3.heap.size (.bool m3) (.slice p3 j3 d3) (.bool m4) (.slice p4 j4 d4) := Box4.new _ _ _ _ _ _ rfl
          have bA4 := bA2.keep E4.bl
          have bX4 := bX.keep E4.bl
          have hW4 := below_call hW2 E4.bl hW2.size
          have lA3 := (bA2.keep E3.bl).lt
          have lX3 := (bX.keep E3.bl).lt
          obtain ⟨x0, x1, x2, x3, y0, y1, y2, y3⟩ := keep44 (bA2.keep E3.bl) (bX.keep E3.bl) (Below.refl _ _)
          replace E4 := E4.rebase
          clear E3 bA2 bP2 bQ2 bX hW2
          go_wp2_with fail
          clear x0 x1 x2 x3 y0 y1 y2 y3 lA3 lX3
          generalize u3.alloc (.cells #[.bool m3, .slice p3 j3 d3, .bool m4, .slice p4 j4 d4] 43) = U4 at *
          generalize u3.heap.size = gY at *
          have E := E4.drew
          clear E4
          go_region_held3 (fun W' => W'.cell? ⟨w.heap.size, 0, none⟩ = some (.bool n1) ∧ W'.cell? ⟨w.heap.size, 1, none⟩ = some (.slice a1 L1 c1) ∧ W'.cell? ⟨w.heap.size, 2, none⟩ = some (.bool n2) ∧ W'.cell? ⟨w.heap.size, 3, none⟩ = some (.slice a2 L2 c2) ∧ W'.cell? ⟨gX, 0, none⟩ = some (.bool m1) ∧ W'.cell? ⟨gX, 1, none⟩ = some (.slice p1 j1 d1) ∧ W'.cell? ⟨gX, 2, none⟩ = some (.bool m2) ∧ W'.cell? ⟨gX, 3, none⟩ = some (.slice p2 j2 d2) ∧ W'.cell? ⟨gY, 0, none⟩ = some (.bool m3) ∧ W'.cell? ⟨gY, 1, none⟩ = some (.slice p3 j3 d3) ∧ W'.cell? ⟨gY, 2, none⟩ = some (.bool m4) ∧ W'.cell? ⟨gY, 3, none⟩ = some (.slice p4 j4 d4)) (exact keep444 bA4 bX4 bY E.bl) (first
            | (go_at_call 38; go_must (refine (HMA.out _ (by exact below_call hW4 E.bl hW4.size)).mono ?_); rintro e wn ⟨rfl, hbn⟩; have En := E.step hbn; clear hbn; clear E; have E := En; clear En)
            | (go_at_call 39; go_must (refine (HMB.out _ (by exact below_call hW4 E.bl hW4.size)).mono ?_); rintro e wn ⟨rfl, hbn⟩; have En := E.step hbn; clear hbn; clear E; have E := En; clear En)
            | (go_at_call 40; go_must (refine (re_sameRatE E (by repeat (first | exact List.Mem.head _ | refine List.Mem.tail _ ?_)) (by repeat (first | exact List.Mem.head _ | refine List.Mem.tail _ ?_)) (by rfl)).mono ?_); rintro e wn ⟨rfl, En⟩; clear E; have E := En; clear En)
            | (go_at_call 23; go_must (refine (re_num E _).mono ?_); rintro e wn ⟨rfl, En⟩; clear E; have E := En; clear En)
            | (go_at_call 41; go_must (refine (re_ratOf E _ hz1 hz2).mono ?_); rintro e wn ⟨nn, an, kn, cn, no, ao, ko, co, rfl, En⟩; clear E; have E := En; clear En)
            | (go_at_call 42; go_must (refine (re_ofRat E _ hz1 hz2).mono ?_); rintro e wn ⟨nn, an, kn, cn, no, ao, ko, co, rfl, En⟩; clear E; have E := En; clear En)
            | (go_at_call 35; go_must (refine (re_awake2 E).mono ?_); rintro e wn ⟨rfl, En⟩; clear E; have E := En; clear En))
          have HB := hid (below_call hW4 E.bl hW4.size)
          clear E bA4 bX4 bY
          go_wp2
          go_ret
          exact ⟨rfl, HB.out⟩
  · clear hG
    go_wp2_with fail
    refine (awake2_any _).mono ?_
    rintro e w1 ⟨rfl, hb⟩
    have hW1 := below_call hW0 hb hW0.size
    (try clear x0 x1 y0 y1)
    go_wp2
    go_ret
    exact ⟨rfl, hW1⟩

end Go.Proofs.Ytiicjfacekldnaa
