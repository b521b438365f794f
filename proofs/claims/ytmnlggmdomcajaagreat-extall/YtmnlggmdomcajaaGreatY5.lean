/-
  Walks: the law ExtAll.
-/
import Derived.Test.YtmnlggmdomcajaaGreatY4
namespace Go.Proofs.YtmnlggmdomcajaaGreat
open Go.RowKit Lm
set_option linter.unusedSimpArgs false
set_option linter.unusedVariables false
set_option maxRecDepth 100000

set_option maxHeartbeats 6400000 in
theorem extAll_any (w : World) (k1 : Int) (n1 : Bool) (a1 : Option Addr) (c1 : Nat) (l1 : List Nat) (n2 : Bool) (a2 : Option Addr) (c2 : Nat) (l2 : List Nat) (k2 : Int) (n3 : Bool) (a3 : Option Addr) (c3 : Nat) (l3 : List Nat) (n4 : Bool) (a4 : Option Addr) (c4 : Nat) (l4 : List Nat) (n5 : Bool) (a5 : Option Addr) (c5 : Nat) (l5 : List Nat) (n6 : Bool) (a6 : Option Addr) (c6 : Nat) (l6 : List Nat) (h1 : SlAt w a1 c1 l1) (h2 : SlAt w a2 c2 l2) (h3 : SlAt w a3 c3 l3) (h4 : SlAt w a4 c4 l4) (h5 : SlAt w a5 c5 l5) (h6 : SlAt w a6 c6 l6) :
    Calls Tryz.prog 3 #[.agg #[.int .i64 k1, .bool n1, .slice a1 l1.length c1, .bool n2, .slice a2 l2.length c2], .agg #[.int .i64 k2, .bool n3, .slice a3 l3.length c3, .bool n4, .slice a4 l4.length c4], .agg #[.bool n5, .slice a5 l5.length c5, .bool n6, .slice a6 l6.length c6]] w fun e w' => e = .returned (.bool true) ∧ Below w.heap.size w w' := by
  have hk1 := slat_len h1
  have hk2 := slat_len h2
  have hk3 := slat_len h3
  have hk4 := slat_len h4
  have hk5 := slat_len h5
  have hk6 := slat_len h6
  have HX0 := hid (earg_mk (k := k1) (n1 := n1) (n2 := n2) h1 h2)
  have HY0 := hid (earg_mk (k := k2) (n1 := n3) (n2 := n4) h3 h4)
  have HC0 := hid (rarg_mk (n1 := n5) (n2 := n6) h5 h6)
  have HM0 : Hid (l1.length ≤ 6 → l2.length ≤ 6 → ∀ W, Below w.heap.size w W → Calls Tryz.prog 11 #[.agg #[.int .i64 k1, .bool n1, .slice a1 l1.length c1, .bool n2, .slice a2 l2.length c2]] W fun e w' => e = .returned (.bool (mayE k1 n1 l1 n2 l2)) ∧ Below W.heap.size W w') := hid (fun q1 q2 W hW => extMay_any W k1 n1 a1 c1 l1 n2 a2 c2 l2 (h1.below hW) (h2.below hW) (by omega) (by omega))
  have HN0 : Hid (l1.length ≤ 6 → l2.length ≤ 6 → ∀ W, Below w.heap.size w W → Calls Tryz.prog 12 #[.agg #[.int .i64 k1, .bool n1, .slice a1 l1.length c1, .bool n2, .slice a2 l2.length c2]] W fun e w' => e = .returned (.bool (mayE k1 n1 l1 n2 l2)) ∧ Below W.heap.size W w') := hid (fun q1 q2 W hW => rMayExt_any W k1 n1 a1 c1 l1 n2 a2 c2 l2 (h1.below hW) (h2.below hW) (by omega) (by omega))
  generalize mayE k1 n1 l1 n2 l2 = mb at *
  clear h1 h2 h3 h4 h5 h6
  generalize extMean k1 n1 l1 n2 l2 = x at *
  generalize extMean k2 n3 l3 n4 l4 = y at *
  generalize ratMean n5 l5 n6 l6 = t at *
  generalize l1.length = L1 at *
  generalize l2.length = L2 at *
  generalize l3.length = L3 at *
  generalize l4.length = L4 at *
  generalize l5.length = L5 at *
  generalize l6.length = L6 at *
  go_enter Tryz.func3, Tryz.ntmps3
  go_wp2_with fail
  refine (great_x2 _ _ k1 k2 n1 n2 n3 n4 a1 a2 a3 a4 L1 c1 L2 c2 L3 c3 L4 c4 (by simp) hk1 hk2 hk3 hk4).mono ?_
  rintro e W0 ⟨rfl, hb0⟩
  have hWl : Below w.heap.size w ((((w.alloc (.cells #[.int .i64 k1, .bool n1, .slice a1 L1 c1, .bool n2, .slice a2 L2 c2] 28)).alloc (.cells #[.int .i64 k2, .bool n3, .slice a3 L3 c3, .bool n4, .slice a4 L4 c4] 28)).alloc (.cells #[.bool n5, .slice a5 L5 c5, .bool n6, .slice a6 L6 c6] 26)).alloc (.cells #[.int .i64 k1, .bool n1, .slice a1 L1 c1, .bool n2, .slice a2 L2 c2, .int .i64 k2, .bool n3, .slice a3 L3 c3, .bool n4, .slice a4 L4 c4] 28)) := (by repeat (first | exact Below.refl _ _ | refine Below.alloc ?_ ?_ _ | refine Below.setCell ?_ ?_ _ | refine Below.drew ?_ | refine below_drewN ?_ _ | (· simp) | omega | (· simp; omega) | exact Below.size (by assumption) | assumption | refine below_call ?_ (by assumption) ?_))
  have hW0 := below_call hWl hb0 hWl.size
  have bA : Box5 W0 w.heap.size (.int .i64 k1) (.bool n1) (.slice a1 L1 c1) (.bool n2) (.slice a2 L2 c2) := ((((Box5.new _ _ _ _ _ _ _ rfl).alloc _).alloc _).alloc _).keep hb0
  have bB : Box5 W0 (w.heap.size + 1) (.int .i64 k2) (.bool n3) (.slice a3 L3 c3) (.bool n4) (.slice a4 L4 c4) := (((Box5.new _ _ _ _ _ _ _ (by simp)).alloc _).alloc _).keep hb0
  have bC : Box4 W0 (w.heap.size + 1 + 1) (.bool n5) (.slice a5 L5 c5) (.bool n6) (.slice a6 L6 c6) := ((Box4.new _ _ _ _ _ _ (by simp)).alloc _).keep hb0
  clear hb0 hWl
  obtain ⟨z0, z1, z2, z3⟩ := bC.c
  have zl := bC.lt
  cases hG : greatR [(L1, L2), (L3, L4)]
  · obtain ⟨q1, q2⟩ := great_small hG (L1, L2) (List.Mem.head _)
    obtain ⟨q3, q4⟩ := great_small hG (L3, L4) (List.Mem.tail _ (List.Mem.head _))
    have HX := hid ((HX0.out 6 q1 q2).below hW0)
    have HY := hid ((HY0.out 6 q3 q4).below hW0)
    have HM := hid (HM0.out q1 q2)
    have HN := hid (HN0.out q1 q2)
    clear HX0 HY0 HM0 HN0 hG hk1 hk2 hk3 hk4 q1 q2 q3 q4
    go_wp2_with fail
    refine (great_r1 _ _ n5 n6 a5 a6 L5 c5 L6 c6 (by simp) hk5 hk6).mono ?_
    rintro e w1 ⟨rfl, rfl⟩
    have hst : Below W0.heap.size W0 (W0.alloc (.cells #[.bool n5, .slice a5 L5 c5, .bool n6, .slice a6 L6 c6] 26)) := (Below.refl _ _).alloc (Nat.le_refl _) _
    have hW1 := below_call hW0 hst hW0.size
    have HC1 : Hid (∀ n, L5 ≤ n → L6 ≤ n → RArg (W0.alloc (.cells #[.bool n5, .slice a5 L5 c5, .bool n6, .slice a6 L6 c6] 26)) (Value.agg #[Value.bool n5, Value.slice a5 L5 c5, Value.bool n6, Value.slice a6 L6 c6]) n t) := hid (fun n p q => (HC0.out n p q).below hW1)
    replace bA := bA.keep hst
    replace bB := bB.keep hst
    replace bC := bC.keep hst
    replace HX := hid (HX.out.below hst)
    replace HY := hid (HY.out.below hst)
    clear HC0 hst hW0 z0 z1 z2 z3
    cases hG : greatR [(L5, L6)]
    · obtain ⟨q5, q6⟩ := great_small hG (L5, L6) (List.Mem.head _)
      have HC := hid (HC1.out 6 q5 q6)
      clear HC1 hG hk5 hk6 q5 q6
      have E0 : YE (W0.alloc (.cells #[.bool n5, .slice a5 L5 c5, .bool n6, .slice a6 L6 c6] 26)) (W0.alloc (.cells #[.bool n5, .slice a5 L5 c5, .bool n6, .slice a6 L6 c6] 26)) [(Value.agg #[Value.bool n5, Value.slice a5 L5 c5, Value.bool n6, Value.slice a6 L6 c6], 6, t)] [(Value.agg #[Value.int .i64 k2, Value.bool n3, Value.slice a3 L3 c3, Value.bool n4, Value.slice a4 L4 c4], 6, y), (Value.agg #[Value.int .i64 k1, Value.bool n1, Value.slice a1 L1 c1, Value.bool n2, Value.slice a2 L2 c2], 6, x), (Value.agg #[Value.int .i64 0, Value.bool false, Value.slice none 0 0, Value.bool false, Value.slice none 0 0], 0, x0E)] [] := ⟨by simpa using HC.out, by simpa using ⟨HY.out, HX.out, earg_zero _⟩, by simp, Below.refl _ _⟩
      clear HX HY HC zl
      obtain ⟨x0, x1, x2, x3, x4⟩ := bA.c
      obtain ⟨y0, y1, y2, y3, y4⟩ := bB.c
      obtain ⟨z0, z1, z2, z3⟩ := bC.c
      go_wp2_with fail
      clear x0 x1 x2 x3 x4 y0 y1 y2 y3 y4 z0 z1 z2 z3
      generalize W0.alloc (.cells #[.bool n5, .slice a5 L5 c5, .bool n6, .slice a6 L6 c6] 26) = W2 at *
      have hW2 := hW1
      have E := E0.drew
      clear E0 hW1
      obtain ⟨c, hc⟩ : ∃ c, cmpE x y = c := ⟨_, rfl⟩
      obtain ⟨tx, htx⟩ : ∃ tx, textE x = tx := ⟨_, rfl⟩
      have HCC := hid hc
      have HTX := hid htx
      have f1 : (mb == mb) = true := by simp
      have f2 : (c == c) = true := by simp
      have f3 : (tx.toList == tx.toList) = true := by simp
      clear hc htx
      go_region_held3 (fun W' => (W'.cell? ⟨w.heap.size, 0, none⟩ = some (.int .i64 k1) ∧ W'.cell? ⟨w.heap.size, 1, none⟩ = some (.bool n1) ∧ W'.cell? ⟨w.heap.size, 2, none⟩ = some (.slice a1 L1 c1) ∧ W'.cell? ⟨w.heap.size, 3, none⟩ = some (.bool n2) ∧ W'.cell? ⟨w.heap.size, 4, none⟩ = some (.slice a2 L2 c2) ∧ W'.cell? ⟨w.heap.size + 1, 0, none⟩ = some (.int .i64 k2) ∧ W'.cell? ⟨w.heap.size + 1, 1, none⟩ = some (.bool n3) ∧ W'.cell? ⟨w.heap.size + 1, 2, none⟩ = some (.slice a3 L3 c3) ∧ W'.cell? ⟨w.heap.size + 1, 3, none⟩ = some (.bool n4) ∧ W'.cell? ⟨w.heap.size + 1, 4, none⟩ = some (.slice a4 L4 c4)) ∧ (W'.cell? ⟨w.heap.size + 1 + 1, 0, none⟩ = some (.bool n5) ∧ W'.cell? ⟨w.heap.size + 1 + 1, 1, none⟩ = some (.slice a5 L5 c5) ∧ W'.cell? ⟨w.heap.size + 1 + 1, 2, none⟩ = some (.bool n6) ∧ W'.cell? ⟨w.heap.size + 1 + 1, 3, none⟩ = some (.slice a6 L6 c6))) (exact ⟨keep55 bA bB E.bl, (bC.keep E.bl).c⟩) (first
        | (go_at_call 11; go_must (refine (HM.out _ (below_call hW2 E.bl hW2.size)).mono ?_); rintro e wn ⟨rfl, hb⟩; have En := E.step hb; clear hb; clear E; have E := En; clear En)
        | (go_at_call 12; go_must (refine (HN.out _ (below_call hW2 E.bl hW2.size)).mono ?_); rintro e wn ⟨rfl, hb⟩; have En := E.step hb; clear hb; clear E; have E := En; clear En)
        | (go_at_call 13; go_must (refine (ye_cmp E (.tail _ (.head _)) (.head _) HCC.out (by omega) (by omega)).mono ?_); rintro e wn ⟨rfl, En⟩; clear E; have E := En; clear En)
        | (go_at_call 14; go_must (refine (ye_rcmp E (.tail _ (.head _)) (.head _) HCC.out (by omega) (by omega)).mono ?_); rintro e wn ⟨rfl, En⟩; clear E; have E := En; clear En)
        | (go_at_call 16; go_must (refine (ye_max E (.tail _ (.head _)) (.head _) (by omega)).mono ?_); rintro e wn ⟨nn, an, kn, cn, no, ao, ko, co, rfl, En⟩; clear E; have E := En; clear En)
        | (go_at_call 17; go_must (refine (ye_rmax E (.tail _ (.head _)) (.head _) (by omega)).mono ?_); rintro e wn ⟨nn, an, kn, cn, no, ao, ko, co, rfl, En⟩; clear E; have E := En; clear En)
        | (go_at_call 18; go_must (refine (ye_min E (.tail _ (.head _)) (.head _) (by omega)).mono ?_); rintro e wn ⟨nn, an, kn, cn, no, ao, ko, co, rfl, En⟩; clear E; have E := En; clear En)
        | (go_at_call 19; go_must (refine (ye_rmin E (.tail _ (.head _)) (.head _) (by omega)).mono ?_); rintro e wn ⟨nn, an, kn, cn, no, ao, ko, co, rfl, En⟩; clear E; have E := En; clear En)
        | (go_at_call 20; go_must (refine (ye_add E (.tail _ (.head _)) (.head _) (by omega) (by omega)).mono ?_); rintro e wn ⟨nn, an, kn, cn, no, ao, ko, co, rfl, En⟩; clear E; have E := En; clear En)
        | (go_at_call 21; (first | (with_reducible refine (ye_radd (n := 6) (x := x) E (List.mem_cons_of_mem _ List.mem_cons_self) List.mem_cons_self (by omega) (by omega)).mono ?_) | (with_reducible refine (ye_radd (n := 0) (x := x0E) E (List.mem_cons_of_mem _ (List.mem_cons_of_mem _ List.mem_cons_self)) List.mem_cons_self (by omega) (by omega)).mono ?_)); rintro e wn ⟨nn, an, kn, cn, no, ao, ko, co, rfl, En⟩; clear E; have E := En; clear En)
        | (go_at_call 22; go_must (refine (ye_text E (.tail _ (.head _)) HTX.out (by omega)).mono ?_); rintro e wn ⟨rfl, En⟩; clear E; have E := En; clear En)
        | (go_at_call 23; go_must (refine (ye_rtext E (.tail _ (.head _)) HTX.out (by omega)).mono ?_); rintro e wn ⟨rfl, En⟩; clear E; have E := En; clear En)
        | (go_at_call 24; go_must (refine (ye_of E (.head _) (by omega)).mono ?_); rintro e wn ⟨nn, an, kn, cn, no, ao, ko, co, rfl, En⟩; clear E; have E := En; clear En)
        | (go_at_call 15; go_must (refine (ye_same E (.tail _ (.head _)) (.head _)).mono ?_); rintro e wn ⟨rfl, En⟩; clear E; have E := En; clear En)
        | (go_at_call 10; go_must (refine (ye_awake E).mono ?_); rintro e wn ⟨rfl, En⟩; clear E; have E := En; clear En))
      have HB := hid (below_call hW2 E.bl hW2.size)
      clear E bA bB bC
      go_wp2
      go_ret
      exact ⟨rfl, HB.out⟩
    · clear hG
      go_wp2_with fail
      refine (awake3_any _).mono ?_
      rintro e w1 ⟨rfl, hb⟩
      have hW2 := below_call hW1 hb hW1.size
      go_wp2
      go_ret
      exact ⟨rfl, hW2⟩
  · clear hG
    go_wp2_with fail
    refine (awake3_any _).mono ?_
    rintro e w1 ⟨rfl, hb⟩
    have hW1 := below_call hW0 hb hW0.size
    clear z0 z1 z2 z3 zl
    go_wp2
    go_ret
    exact ⟨rfl, hW1⟩

end Go.Proofs.YtmnlggmdomcajaaGreat
