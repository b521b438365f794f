/-
  Walks: the law RatTexts.
-/
import Derived.Test.YtogdchddmjokmaaGreatDoorK8
import Derived.Test.YtogdchddmjokmaaGreatDoorK9
import Derived.Test.YtogdchddmjokmaaGreatDoorK12
namespace Go.Proofs.YtogdchddmjokmaaGreatDoor
open Go.RowKit Lm
set_option linter.unusedSimpArgs false
set_option linter.unusedVariables false
set_option maxRecDepth 100000

def rx (s : ByteArray) : Int := if readE s = 0 then (readQ s).num else 0
def ry (s : ByteArray) : Int := if readE s = 0 then ((readQ s).den : Int) else 0
theorem readP_parts {w w' : World} {s : ByteArray} {e : Ending} (h : ReadP w s e w') : ∃ n1 a1 k1 c1 n2 a2 k2 c2, e = .returned (.tuple #[.agg #[.bool n1, .slice a1 k1 c1, .bool n2, .slice a2 k2 c2], .int .i64 ((readE s : Nat) : Int)]) ∧ Is w' 0 (.agg #[.bool n1, .slice a1 k1 c1]) 20000 (rx s) ∧ Is w' 0 (.agg #[.bool n2, .slice a2 k2 c2]) 20000 (ry s) ∧ Below w.heap.size w w' := by
  rcases h with ⟨h1, rfl, hb⟩ | ⟨h1, m1, p1, j1, d1, m2, p2, j2, d2, rfl, hI, hb⟩
  · have hz := (is_zero w').mono (Nat.le_refl 0) (Nat.zero_le 20000)
    refine ⟨false, none, 0, 0, false, none, 0, 0, rfl, ?_, ?_, hb⟩
    · unfold rx; rw [if_neg h1]; exact hz
    · unfold ry; rw [if_neg h1]; exact hz
  · obtain ⟨i1, i2⟩ := ris_parts hI
    refine ⟨m1, p1, j1, d1, m2, p2, j2, d2, by rw [h1]; rfl, ?_, ?_, hb⟩
    · unfold rx; rw [if_pos h1]; exact i1
    · unfold ry; rw [if_pos h1]; exact i2
set_option maxHeartbeats 3200000 in
theorem sameRat_parts (w : World) (n5 n6 n7 n8 : Bool) (a5 a6 a7 a8 : Option Addr) (k5 c5 k6 c6 k7 c7 k8 c8 : Nat) (n : Nat) (x y : Int) (I1 : Is w 0 (.agg #[.bool n5, .slice a5 k5 c5]) n x) (I2 : Is w 0 (.agg #[.bool n6, .slice a6 k6 c6]) n y) (I3 : Is w 0 (.agg #[.bool n7, .slice a7 k7 c7]) n x) (I4 : Is w 0 (.agg #[.bool n8, .slice a8 k8 c8]) n y) :
    Calls Tryz.prog 10 #[.agg #[.bool n5, .slice a5 k5 c5, .bool n6, .slice a6 k6 c6], .agg #[.bool n7, .slice a7 k7 c7, .bool n8, .slice a8 k8 c8]] w fun e w' => e = .returned (.bool true) ∧ Below w.heap.size w w' := by
  have J1 := hid I1
  have J2 := hid I2
  have J3 := hid I3
  have J4 := hid I4
  clear I1 I2 I3 I4
  go_enter Tryz.func10, Tryz.ntmps10
  go_wp2_with fail
  have hW0 : Below w.heap.size w ((w.alloc (.cells #[.bool n5, .slice a5 k5 c5, .bool n6, .slice a6 k6 c6] 26)).alloc (.cells #[.bool n7, .slice a7 k7 c7, .bool n8, .slice a8 k8 c8] 26)) := (by repeat (first | exact Below.refl _ _ | refine Below.alloc ?_ ?_ _ | refine Below.setCell ?_ ?_ _ | refine Below.drew ?_ | refine below_drewN ?_ _ | (· simp) | omega | (· simp; omega) | exact Below.size (by assumption) | assumption | refine below_call ?_ (by assumption) ?_))
  have bA : Box4 ((w.alloc (.cells #[.bool n5, .slice a5 k5 c5, .bool n6, .slice a6 k6 c6] 26)).alloc (.cells #[.bool n7, .slice a7 k7 c7, .bool n8, .slice a8 k8 c8] 26)) w.heap.size (.bool n5) (.slice a5 k5 c5) (.bool n6) (.slice a6 k6 c6) := (Box4.new _ _ _ _ _ _ rfl).alloc _
  have bB : Box4 ((w.alloc (.cells #[.bool n5, .slice a5 k5 c5, .bool n6, .slice a6 k6 c6] 26)).alloc (.cells #[.bool n7, .slice a7 k7 c7, .bool n8, .slice a8 k8 c8] 26)) (w.heap.size + 1) (.bool n7) (.slice a7 k7 c7) (.bool n8) (.slice a8 k8 c8) := Box4.new _ _ _ _ _ _ (by simp)
  generalize ((w.alloc (.cells #[.bool n5, .slice a5 k5 c5, .bool n6, .slice a6 k6 c6] 26)).alloc (.cells #[.bool n7, .slice a7 k7 c7, .bool n8, .slice a8 k8 c8] 26)) = W0 at *
  refine (same_num _ _ _ n n 0 0 x x (J1.out.below hW0) (J3.out.below hW0)).mono ?_
  rintro e w1 ⟨rfl, hb1⟩
  have hW1 := below_call hW0 hb1 hW0.size
  obtain ⟨x0, x1, x2, x3, y0, y1, y2, y3⟩ := keep44 bA bB hb1
  have lA := (bA.keep hb1).lt
  have lB := (bB.keep hb1).lt
  clear hb1 bA bB hW0
  rw [decide_eq_true (rfl : x = x)]
  go_wp2_with fail
  refine (same_num _ _ _ n n 0 0 y y (J2.out.below hW1) (J4.out.below hW1)).mono ?_
  rintro e w2 ⟨rfl, hb2⟩
  have hW2 := below_call hW1 hb2 hW1.size
  clear hb2 x0 x1 x2 x3 y0 y1 y2 y3
  rw [decide_eq_true (rfl : y = y)]
  go_wp2
  go_ret
  exact ⟨rfl, hW2⟩
section
variable {U W : World} {KA KI : List (Value × Nat × Int)} {KR KS : List (Value × Nat × Rat)} {u : Value} {n : Nat} {r : Rat}
theorem re_rTextR (E : RE U W KA KI KR KS) (hu : (u, n, r) ∈ KR) (hn : n ≤ 30000) : Calls Tryz.prog 9 #[u] W fun e w' => e = .returned (.string (textR r)) ∧ RE U w' KA KI KR KS := by
  refine (rTextRat_any W u n r (E.r _ hu) hn).mono ?_
  rintro e w' ⟨rfl, hb⟩
  exact ⟨rfl, E.step hb⟩
theorem re_sameP {n5 n6 n7 n8 : Bool} {a5 a6 a7 a8 : Option Addr} {k5 c5 k6 c6 k7 c7 k8 c8 : Nat} {x y : Int} (E : RE U W KA KI KR KS) (h1 : (.agg #[.bool n5, .slice a5 k5 c5], 20000, x) ∈ KI) (h2 : (.agg #[.bool n6, .slice a6 k6 c6], 20000, y) ∈ KI) (h3 : (.agg #[.bool n7, .slice a7 k7 c7], 20000, x) ∈ KI) (h4 : (.agg #[.bool n8, .slice a8 k8 c8], 20000, y) ∈ KI) :
    Calls Tryz.prog 10 #[.agg #[.bool n5, .slice a5 k5 c5, .bool n6, .slice a6 k6 c6], .agg #[.bool n7, .slice a7 k7 c7, .bool n8, .slice a8 k8 c8]] W fun e w' => e = .returned (.bool true) ∧ RE U w' KA KI KR KS := by
  refine (sameRat_parts W n5 n6 n7 n8 a5 a6 a7 a8 k5 c5 k6 c6 k7 c7 k8 c8 20000 x y (E.i _ h1) (E.i _ h2) (E.i _ h3) (E.i _ h4)).mono ?_
  rintro e w' ⟨rfl, hb⟩
  exact ⟨rfl, E.step hb⟩
end
set_option maxHeartbeats 6400000 in
theorem lawTexts_any (w : World) (s : ByteArray) (n1 n2 : Bool) (a1 a2 : Option Addr) (c1 c2 : Nat) (l1 l2 : List Nat) (hs : s.size ≤ 9223372036854775807) (h1 : SlAt w a1 c1 l1) (h2 : SlAt w a2 c2 l2) (hE : ES w) (hM : ML w) :
    Calls Tryz.prog 3 #[.agg #[.bool n1, .slice a1 l1.length c1, .bool n2, .slice a2 l2.length c2], .string s] w fun e w' => e = .returned (.bool true) ∧ Below w.heap.size w w' := by
  have hk1 := slat_len h1
  have hk2 := slat_len h2
  have HX := hid (rarg_mk (n1 := n1) (n2 := n2) h1 h2)
  have HE := hid hE
  have HM := hid hM
  clear h1 h2 hE hM
  generalize ratMean n1 l1 n2 l2 = r at *
  generalize l1.length = L1 at *
  generalize l2.length = L2 at *
  go_enter Tryz.func3, Tryz.ntmps3
  go_wp2_with fail
  refine (great_r1 _ _ n1 n2 a1 a2 L1 c1 L2 c2 (by simp) hk1 hk2).mono ?_
  rintro e w0 ⟨rfl, rfl⟩
  have hW0 : Below w.heap.size w ((w.alloc (.cells #[.bool n1, .slice a1 L1 c1, .bool n2, .slice a2 L2 c2] 26)).alloc (.cells #[.bool n1, .slice a1 L1 c1, .bool n2, .slice a2 L2 c2] 26)) := (by repeat (first | exact Below.refl _ _ | refine Below.alloc ?_ ?_ _ | refine Below.setCell ?_ ?_ _ | refine Below.drew ?_ | refine below_drewN ?_ _ | (· simp) | omega | (· simp; omega) | exact Below.size (by assumption) | assumption | refine below_call ?_ (by assumption) ?_))
  have bA : Box4 ((w.alloc (.cells #[.bool n1, .slice a1 L1 c1, .bool n2, .slice a2 L2 c2] 26)).alloc (.cells #[.bool n1, .slice a1 L1 c1, .bool n2, .slice a2 L2 c2] 26)) w.heap.size (.bool n1) (.slice a1 L1 c1) (.bool n2) (.slice a2 L2 c2) := (Box4.new _ _ _ _ _ _ rfl).alloc _
  generalize (w.alloc (.cells #[.bool n1, .slice a1 L1 c1, .bool n2, .slice a2 L2 c2] 26)).alloc (.cells #[.bool n1, .slice a1 L1 c1, .bool n2, .slice a2 L2 c2] 26) = W0 at *
  cases hG : greatR [(L1, L2)]
  · by_cases hmid : 100 < s.size ∧ s.size ≤ 10001
    · have i1 : (100 : Int) < (s.size : Int) := by omega
      have i2 : (s.size : Int) ≤ 10001 := by omega
      clear HX HE HM hk1 hk2 hG hmid bA
      go_wp2_with fail
      (refine (awake2_any _).mono ?_; rintro e w1 ⟨rfl, hb⟩; have HB := hid (below_call hW0 hb hW0.size); clear hb hW0; go_wp2; go_ret; exact ⟨rfl, HB.out⟩)
    · obtain ⟨q1, q2⟩ := great_small hG (L1, L2) (List.Mem.head _)
      have HRA := hid ((HX.out 6 q1 q2).below hW0)
      have HSZ : Hid (s.size ≤ 100 ∨ 10001 < s.size) := hid (by omega)
      clear HX hG hk1 hk2 q1 q2
      have hsp : ¬ (100 : Int) < (s.size : Int) ∨ ((100 : Int) < (s.size : Int) ∧ ¬ (s.size : Int) ≤ 10001) := by omega
      clear hmid
      rcases hsp with i1 | ⟨i1, i2⟩
      all_goals
        go_wp2_with fail
        refine (ratRead_any _ s hs (HE.out.below hW0) (HM.out.below hW0)).mono ?_
        rintro e w1 h
        obtain ⟨n5, a5, k5, c5, n6, a6, k6, c6, rfl, I1, I2, hb1⟩ := readP_parts h
        have hW1 := below_call hW0 hb1 hW0.size
        have bA1 := bA.keep hb1
        have HR1 := hid (HRA.out.below hb1)
        have hst : Below w1.heap.size w1 (w1.alloc (.cells #[.bool n5, .slice a5 k5 c5, .bool n6, .slice a6 k6 c6] 26)) := (Below.refl _ _).alloc (Nat.le_refl _) _
        have hW2 := below_call hW1 hst hW1.size
        have bA2 := bA1.keep hst
        have bX2 : Box4 (w1.alloc (.cells #[.bool n5, .slice a5 k5 c5, .bool n6, .slice a6 k6 c6] 26)) w1.heap.size (.bool n5) (.slice a5 k5 c5) (.bool n6) (.slice a6 k6 c6) := Box4.new _ _ _ _ _ _ rfl
        have J1 := hid (I1.below hst)
        have J2 := hid (I2.below hst)
        have HR2 := hid (HR1.out.below hst)
        have lA1 := bA1.lt
        clear h I1 I2 hb1 hst hW0 hW1 bA bA1 HR1 HRA
        go_wp2_with fail
        generalize w1.alloc (.cells #[.bool n5, .slice a5 k5 c5, .bool n6, .slice a6 k6 c6] 26) = W2 at *
        refine (rReadRat_any W2 s hs HSZ.out).mono ?_
        rintro e w3 h
        obtain ⟨n7, a7, k7, c7, n8, a8, k8, c8, rfl, I3, I4, hb3⟩ := readP_parts h
        have hW3 := below_call hW2 hb3 hW2.size
        have bA3 := bA2.keep hb3
        have bX3 := bX2.keep hb3
        have hst : Below w3.heap.size w3 (w3.alloc (.cells #[.bool n7, .slice a7 k7 c7, .bool n8, .slice a8 k8 c8] 26)) := (Below.refl _ _).alloc (Nat.le_refl _) _
        have hW4 := below_call hW3 hst hW3.size
        have bA4 := bA3.keep hst
        have bX4 := bX3.keep hst
        have bY4 : Box4 (w3.alloc (.cells #[.bool n7, .slice a7 k7 c7, .bool n8, .slice a8 k8 c8] 26)) w3.heap.size (.bool n7) (.slice a7 k7 c7) (.bool n8) (.slice a8 k8 c8) := Box4.new _ _ _ _ _ _ rfl
        have K1 := (J1.out.below hb3).below hst
        have K2 := (J2.out.below hb3).below hst
        have K3 := I3.below hst
        have K4 := I4.below hst
        have KR := (HR2.out.below hb3).below hst
        have lA3 := bA3.lt
        have lX3 := bX3.lt
        clear h I3 I4 hb3 hst hW2 hW3 bA2 bX2 bA3 bX3 J1 J2 HR2
        go_wp2_with fail
        generalize w3.alloc (.cells #[.bool n7, .slice a7 k7 c7, .bool n8, .slice a8 k8 c8] 26) = W4 at *
        generalize rx s = x at *
        generalize ry s = y at *
        generalize readE s = z at *
        have E : RE W4 W4.drew [(.agg #[.bool n5, .slice a5 k5 c5], 20000, x), (.agg #[.bool n6, .slice a6 k6 c6], 20000, y), (.agg #[.bool n7, .slice a7 k7 c7], 20000, x), (.agg #[.bool n8, .slice a8 k8 c8], 20000, y)] [(.agg #[.bool n5, .slice a5 k5 c5], 20000, x), (.agg #[.bool n6, .slice a6 k6 c6], 20000, y), (.agg #[.bool n7, .slice a7 k7 c7], 20000, x), (.agg #[.bool n8, .slice a8 k8 c8], 20000, y)] [(Value.agg #[Value.bool n1, Value.slice a1 L1 c1, Value.bool n2, Value.slice a2 L2 c2], 6, r)] [] := (((((RE.none W4).knowR KR).knowI K4).knowI K3).knowI K2).knowI K1 |>.drew
        clear K1 K2 K3 K4 KR
        have hT : ((textR r).toList == (textR r).toList) = true := by simp
        have hZ : (((z : Nat) : Int) == ((z : Nat) : Int)) = true := by simp
        go_region_held3 (fun W' => W'.cell? ⟨w.heap.size, 0, none⟩ = some (.bool n1) ∧ W'.cell? ⟨w.heap.size, 1, none⟩ = some (.slice a1 L1 c1) ∧ W'.cell? ⟨w.heap.size, 2, none⟩ = some (.bool n2) ∧ W'.cell? ⟨w.heap.size, 3, none⟩ = some (.slice a2 L2 c2) ∧ W'.cell? ⟨w1.heap.size, 0, none⟩ = some (.bool n5) ∧ W'.cell? ⟨w1.heap.size, 1, none⟩ = some (.slice a5 k5 c5) ∧ W'.cell? ⟨w1.heap.size, 2, none⟩ = some (.bool n6) ∧ W'.cell? ⟨w1.heap.size, 3, none⟩ = some (.slice a6 k6 c6) ∧ W'.cell? ⟨w3.heap.size, 0, none⟩ = some (.bool n7) ∧ W'.cell? ⟨w3.heap.size, 1, none⟩ = some (.slice a7 k7 c7) ∧ W'.cell? ⟨w3.heap.size, 2, none⟩ = some (.bool n8) ∧ W'.cell? ⟨w3.heap.size, 3, none⟩ = some (.slice a8 k8 c8)) (with_reducible exact keep444 bA4 bX4 bY4 E.bl) (first
          | (go_at_call 11; go_must (refine (re_num E _).mono ?_); rintro e wn ⟨rfl, En⟩; clear E; have E := En; clear En)
          | (go_at_call 8; go_must (refine (re_rText E (List.Mem.head _) (by omega)).mono ?_); rintro e wn ⟨rfl, En⟩; clear E; have E := En; clear En)
          | (go_at_call 9; go_must (refine (re_rTextR E (List.Mem.head _) (by omega)).mono ?_); rintro e wn ⟨rfl, En⟩; clear E; have E := En; clear En)
          | (go_at_call 10; go_must (refine (re_sameP E (List.Mem.head _) (List.Mem.tail _ (List.Mem.head _)) (List.Mem.tail _ (List.Mem.tail _ (List.Mem.head _))) (List.Mem.tail _ (List.Mem.tail _ (List.Mem.tail _ (List.Mem.head _))))).mono ?_); rintro e wn ⟨rfl, En⟩; clear E; have E := En; clear En)
          | (go_at_call 5; go_must (refine (re_awake2 E).mono ?_); rintro e wn ⟨rfl, En⟩; clear E; have E := En; clear En))
        all_goals
          have HW := hid (below_call hW4 E.bl hW4.size)
          clear E hW4 bA4 bX4 bY4
          go_wp2
          go_ret
          exact ⟨rfl, HW.out⟩
  · clear HX HE HM hk1 hk2 hG bA
    go_wp2_with fail
    (refine (awake2_any _).mono ?_; rintro e w1 ⟨rfl, hb⟩; have HB := hid (below_call hW0 hb hW0.size); clear hb hW0; go_wp2; go_ret; exact ⟨rfl, HB.out⟩)
end Go.Proofs.YtogdchddmjokmaaGreatDoor
