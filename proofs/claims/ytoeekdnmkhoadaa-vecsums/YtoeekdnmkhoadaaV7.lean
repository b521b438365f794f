/-
  The law VecSums.
-/
import Derived.Test.YtoeekdnmkhoadaaVA
namespace Go.Proofs.Ytoeekdnmkhoadaa
open Go.RowKit Lm
set_option linter.unusedSimpArgs false
set_option linter.unusedVariables false
set_option maxRecDepth 100000

theorem RawRow.take {w : World} {ao : Option Addr} {cap : Nat} {L : List RQ} (h : RawRow w ao cap L) (k : Nat) : RawRow w ao cap (L.take k) := by
  obtain ⟨h1, h2, h3⟩ := h
  refine ⟨by rw [List.length_take]; omega, h2, ?_⟩
  rcases h3 with h3 | ⟨b, off, e, hlt, hc⟩
  · exact .inl (by rw [List.length_take]; omega)
  · refine .inr ⟨b, off, e, hlt, fun i hi => ?_⟩
    rw [List.length_take] at hi
    rw [List.getElem_take]
    exact hc i (by omega)
theorem rawTab3 {W0 : World} {g : Nat} (hg : g = W0.heap.size) {a b c : Option Addr} {k1 c1 k2 c2 k3 c3 : Nat} {A B C : List RQ} (e1 : k1 = A.length) (e2 : k2 = B.length) (e3 : k3 = C.length) (h1 : RawRow W0 a c1 A) (h2 : RawRow W0 b c2 B) (h3 : RawRow W0 c c3 C) : RawTab (W0.alloc (.cells #[.slice a k1 c1, .slice b k2 c2, .slice c k3 c3] 47)) (some ⟨g, 0, none⟩) 3 [A, B, C] := by
  subst hg
  have h := heap_alloc_new W0 (.cells #[.slice a k1 c1, .slice b k2 c2, .slice c k3 c3] 47)
  have hb : Below W0.heap.size W0 (W0.alloc (.cells #[.slice a k1 c1, .slice b k2 c2, .slice c k3 c3] 47)) := (Below.refl _ _).alloc (Nat.le_refl _) _
  refine ⟨Nat.le_refl _, by unfold maxLen; omega, .inr ⟨W0.heap.size, 0, rfl, (Array.getElem?_eq_some_iff.1 h).1, fun i hi => ?_⟩⟩
  simp at hi
  rcases (show i = 0 ∨ i = 1 ∨ i = 2 by omega) with rfl | rfl | rfl
  · exact ⟨_, _, _, by rw [cell_of_row _ _ _ _ _ _ h]; rfl, e1, h1.below hb⟩
  · exact ⟨_, _, _, by rw [cell_of_row _ _ _ _ _ _ h]; rfl, e2, h2.below hb⟩
  · exact ⟨_, _, _, by rw [cell_of_row _ _ _ _ _ _ h]; rfl, e3, h3.below hb⟩
theorem dot_plus (A B C : List Rat) (t : Rat) (h1 : A.length = B.length) (h2 : A.length = C.length) : dotR (plusR A t B) C = dotR A C + t * dotR C B := by
  induction A generalizing B C with
  | nil =>
    cases B with
    | cons b B => simp at h1
    | nil =>
      cases C with
      | cons c C => simp at h2
      | nil => show (0 : Rat) = 0 + t * 0; rw [Rat.mul_zero, Rat.add_zero]
  | cons a A ih =>
    cases B with
    | nil => simp at h1
    | cons b B =>
      cases C with
      | nil => simp at h2
      | cons c C =>
        simp at h1 h2
        show (a + t * b) * c + dotR (plusR A t B) C = a * c + dotR A C + t * (c * b + dotR C B)
        rw [ih B C h1 h2]
        grind
theorem keep16 {W : World} {g1 g2 g3 g4 : Nat} {p1 p2 p3 p4 q1 q2 q3 q4 r1 r2 r3 r4 s1 s2 s3 s4 : Value} (h1 : Box4 W g1 p1 p2 p3 p4) (h2 : Box4 W g2 q1 q2 q3 q4) (h3 : Box4 W g3 r1 r2 r3 r4) (h4 : Box4 W g4 s1 s2 s3 s4) :
    W.cell? ⟨g1, 0, none⟩ = some p1 ∧ W.cell? ⟨g1, 1, none⟩ = some p2 ∧ W.cell? ⟨g1, 2, none⟩ = some p3 ∧ W.cell? ⟨g1, 3, none⟩ = some p4 ∧ W.cell? ⟨g2, 0, none⟩ = some q1 ∧ W.cell? ⟨g2, 1, none⟩ = some q2 ∧ W.cell? ⟨g2, 2, none⟩ = some q3 ∧ W.cell? ⟨g2, 3, none⟩ = some q4 ∧ W.cell? ⟨g3, 0, none⟩ = some r1 ∧ W.cell? ⟨g3, 1, none⟩ = some r2 ∧ W.cell? ⟨g3, 2, none⟩ = some r3 ∧ W.cell? ⟨g3, 3, none⟩ = some r4 ∧ W.cell? ⟨g4, 0, none⟩ = some s1 ∧ W.cell? ⟨g4, 1, none⟩ = some s2 ∧ W.cell? ⟨g4, 2, none⟩ = some s3 ∧ W.cell? ⟨g4, 3, none⟩ = some s4 := by
  obtain ⟨a1, a2, a3, a4⟩ := h1.c
  obtain ⟨b1, b2, b3, b4⟩ := h2.c
  obtain ⟨c1, c2, c3, c4⟩ := h3.c
  obtain ⟨d1, d2, d3, d4⟩ := h4.c
  exact ⟨a1, a2, a3, a4, b1, b2, b3, b4, c1, c2, c3, c4, d1, d2, d3, d4⟩

theorem run_min4 {P : Program} (w : World) (ts : Array TypeId) (t : TypeId) (x y z u : Int) : (Builtin.min_ ts t #[.int .i64 x, .int .i64 y, .int .i64 z, .int .i64 u]).run P w = .ok (.int .i64 (min (min (min x y) z) u)) w := by
  have e : ∀ a b : Int, (if b < a then b else a) = min a b := by
    intro a b
    rw [Int.min_def]
    split <;> split <;> omega
  simp [Builtin.min_, Builtin.min2, e]

set_option maxHeartbeats 6400000 in
theorem vecSums_w (w : World) (ao bo co : Option Addr) (ka ca kb cb kc cc : Nat) (LA LB LC : List RQ) (m1 m2 : Bool) (d1 d2 : Option Addr) (e1 e2 : Nat) (t1 t2 : List Nat) (hka : ka = LA.length) (hkb : kb = LB.length) (hkc : kc = LC.length) (hA : RawRow w ao ca LA) (hB : RawRow w bo cb LB) (hC : RawRow w co cc LC) (h1 : SlAt w d1 e1 t1) (h2 : SlAt w d2 e2 t2) :
    Calls Try.prog 9 #[.slice ao ka ca, .slice bo kb cb, .slice co kc cc, .agg #[.bool m1, .slice d1 t1.length e1, .bool m2, .slice d2 t2.length e2]] w fun e w' => e = .returned (.bool true) ∧ Below w.heap.size w w' := by
  have hk1 := slat_len h1
  have hk2 := slat_len h2
  have HT0 : Hid (∀ n, t1.length ≤ n → t2.length ≤ n → RArg w (.agg #[.bool m1, .slice d1 t1.length e1, .bool m2, .slice d2 t2.length e2]) n (ratMean m1 t1 m2 t2)) := hid (fun n q1 q2 => ⟨_, _, t1, _, _, t2, rfl, ⟨_, _, rfl, h1⟩, ⟨_, _, rfl, h2⟩, q1, q2, rfl⟩)
  clear h1 h2
  generalize ratMean m1 t1 m2 t2 = t at *
  generalize t1.length = T1 at *
  generalize t2.length = T2 at *
  have fa : ka ≤ ca ∧ ca ≤ 9223372036854775807 := by have q1 := hA.1; have q2 := hA.2.1; unfold maxLen at q2; omega
  have fb : kb ≤ cb ∧ cb ≤ 9223372036854775807 := by have q1 := hB.1; have q2 := hB.2.1; unfold maxLen at q2; omega
  have fc : kc ≤ cc ∧ cc ≤ 9223372036854775807 := by have q1 := hC.1; have q2 := hC.2.1; unfold maxLen at q2; omega
  obtain ⟨fa1, fa2⟩ := fa
  obtain ⟨fb1, fb2⟩ := fb
  obtain ⟨fc1, fc2⟩ := fc
  obtain ⟨N, hN⟩ : ∃ N, N = min (min (min ka kb) kc) 20 := ⟨_, rfl⟩
  have hmin : min (min (min (ka : Int) (kb : Int)) (kc : Int)) 20 = (N : Int) := by omega
  have hmn : ∀ W : World, (Builtin.min_ #[3, 3, 3, 3] 3 #[.int .i64 (ka : Int), .int .i64 (kb : Int), .int .i64 (kc : Int), .int .i64 20]).run Try.prog W = .ok (.int .i64 (N : Int)) W := fun W => by rw [run_min4, hmin]
  have hN20 : N ≤ 20 := by omega
  have g1 : N ≤ ca := by omega
  have g2 : N ≤ cb := by omega
  have g3 : N ≤ cc := by omega
  have i1 : (N : Int) ≤ (ca : Int) := by omega
  have i2 : (N : Int) ≤ (cb : Int) := by omega
  have i3 : (N : Int) ≤ (cc : Int) := by omega
  have HLA : Hid (N = (LA.take N).length) := hid (by rw [List.length_take]; omega)
  have HLB : Hid (N = (LB.take N).length) := hid (by rw [List.length_take]; omega)
  have HLC : Hid (N = (LC.take N).length) := hid (by rw [List.length_take]; omega)
  have HA := hid (hA.take N)
  have HB := hid (hB.take N)
  have HC := hid (hC.take N)
  clear hA hB hC hka hkb hkc
  generalize LA.take N = MA at *
  generalize LB.take N = MB at *
  generalize LC.take N = MC at *
  clear hN hmin fa1 fb1 fc1
  go_enter Try.func9, Try.ntmps9
  go_wp2_with fail
  have hW0 : Below w.heap.size w (w.alloc (.cells #[.bool m1, .slice d1 T1 e1, .bool m2, .slice d2 T2 e2] 37)) := (by repeat (first | exact Below.refl _ _ | refine Below.alloc ?_ ?_ _ | refine Below.setCell ?_ ?_ _ | refine Below.drew ?_ | refine below_drewN ?_ _ | (· simp) | omega | (· simp; omega) | exact Below.size (by assumption) | assumption | refine below_call ?_ (by assumption) ?_))
  have hW1 : Below w.heap.size w ((w.alloc (.cells #[.bool m1, .slice d1 T1 e1, .bool m2, .slice d2 T2 e2] 37)).alloc (.cells #[.slice ao N ca, .slice bo N cb, .slice co N cc] 47)) := (by repeat (first | exact Below.refl _ _ | refine Below.alloc ?_ ?_ _ | refine Below.setCell ?_ ?_ _ | refine Below.drew ?_ | refine below_drewN ?_ _ | (· simp) | omega | (· simp; omega) | exact Below.size (by assumption) | assumption | refine below_call ?_ (by assumption) ?_))
  have bT : Box4 ((w.alloc (.cells #[.bool m1, .slice d1 T1 e1, .bool m2, .slice d2 T2 e2] 37)).alloc (.cells #[.slice ao N ca, .slice bo N cb, .slice co N cc] 47)) w.heap.size (.bool m1) (.slice d1 T1 e1) (.bool m2) (.slice d2 T2 e2) := (Box4.new _ _ _ _ _ _ rfl).alloc _
  have hTab := rawTab3 (W0 := w.alloc (.cells #[.bool m1, .slice d1 T1 e1, .bool m2, .slice d2 T2 e2] 37)) (g := w.heap.size + 1) (by simp) HLA.out HLB.out HLC.out (HA.out.below hW0) (HB.out.below hW0) (HC.out.below hW0)
  generalize (w.alloc (.cells #[.bool m1, .slice d1 T1 e1, .bool m2, .slice d2 T2 e2] 37)).alloc (.cells #[.slice ao N ca, .slice bo N cb, .slice co N cc] 47) = W1 at *
  refine (great4_any _ _ _ _ [MA, MB, MC] rfl hTab).mono ?_
  rintro e W2 ⟨b, rfl, hsm, rfl⟩
  clear hTab hW0
  obtain ⟨x0, x1, x2, x3⟩ := bT.c
  have lT := bT.lt
  cases b
  · have HS := hid (hsm rfl)
    clear hsm
    go_wp2_with fail
    refine (great_r1 W2 W2.heap.size m1 m2 d1 d2 T1 e1 T2 e2 rfl hk1 hk2).mono ?_
    rintro e W3 ⟨rfl, rfl⟩
    have hW3 := hW1.alloc hW1.size (.cells #[.bool m1, .slice d1 T1 e1, .bool m2, .slice d2 T2 e2] 37)
    replace bT := bT.alloc (.cells #[.bool m1, .slice d1 T1 e1, .bool m2, .slice d2 T2 e2] 37)
    clear hW1 x0 x1 x2 x3 lT
    generalize W2.alloc (.cells #[.bool m1, .slice d1 T1 e1, .bool m2, .slice d2 T2 e2] 37) = W3 at *
    cases hG : greatR [(T1, T2)]
    · obtain ⟨q1, q2⟩ := great_small hG (T1, T2) (List.Mem.head _)
      have hAq : QSl W3 (.slice ao N ca) 6 (MA.map RQ.r) := ⟨_, _, _, rfl, by rw [List.length_map]; exact HLA.out, (HA.out.below hW3).qat (HS.out.2 MA (by simp))⟩
      have hBq : QSl W3 (.slice bo N cb) 6 (MB.map RQ.r) := ⟨_, _, _, rfl, by rw [List.length_map]; exact HLB.out, (HB.out.below hW3).qat (HS.out.2 MB (by simp))⟩
      have hCq : QSl W3 (.slice co N cc) 6 (MC.map RQ.r) := ⟨_, _, _, rfl, by rw [List.length_map]; exact HLC.out, (HC.out.below hW3).qat (HS.out.2 MC (by simp))⟩
      have HNA : Hid ((MA.map RQ.r).length = N) := hid (by rw [List.length_map]; exact HLA.out.symm)
      have HNB : Hid ((MB.map RQ.r).length = N) := hid (by rw [List.length_map]; exact HLB.out.symm)
      have HNC : Hid ((MC.map RQ.r).length = N) := hid (by rw [List.length_map]; exact HLC.out.symm)
      have HD : Hid (dotR (plusR (MA.map RQ.r) t (MB.map RQ.r)) (MC.map RQ.r) = dotR (MA.map RQ.r) (MC.map RQ.r) + t * dotR (MC.map RQ.r) (MB.map RQ.r)) := hid (dot_plus _ _ _ _ (HNA.out.trans HNB.out.symm) (HNA.out.trans HNC.out.symm))
      have HLP : Hid ((plusR (MA.map RQ.r) t (MB.map RQ.r)).length = N) := hid ((plusR_len (HNA.out.trans HNB.out.symm)).trans HNA.out)
      generalize MA.map RQ.r = A at *
      generalize MB.map RQ.r = B at *
      generalize MC.map RQ.r = C at *
      have E : VE W3 W3 [((Value.agg #[Value.bool m1, Value.slice d1 T1 e1, Value.bool m2, Value.slice d2 T2 e2]), 6, t)] [] [(.slice ao N ca, 6, A), (.slice bo N cb, 6, B), (.slice co N cc, 6, C)] [] := ((((VE.none W3).knowRow hCq).knowRow hBq).knowRow hAq).knowR ((HT0.out 6 q1 q2).below hW3)
      clear hAq hBq hCq HA HB HC HS HT0 hG HLA HLB HLC
      obtain ⟨x0, x1, x2, x3⟩ := bT.c
      have lT := bT.lt
      go_wp2_with fail
      refine (ve_plus E (.head _) (.head _) (.tail _ (.head _)) (by omega) (by omega) (by omega) (by omega)).mono ?_
      rintro e W4 ⟨pa, pk, pc, rfl, hpk, E4, hb4⟩
      obtain rfl : N = pk := by rw [hpk]; exact HLP.out.symm
      have hW4 := below_call hW3 hb4 hW3.size
      replace bT := bT.keep hb4
      clear E hb4 hW3 x0 x1 x2 x3 lT hpk
      go_wp2_with fail
      refine (ve_dot E4 (.head _) (.tail _ (.tail _ (.tail _ (.head _)))) (by omega) (by omega) (by omega)).mono ?_
      rintro e W5 ⟨n1, a1, k1, c1, n2, a2, k2, c2, rfl, E5, hb5⟩
      have hW5 := (below_call hW4 hb5 hW4.size).alloc (below_call hW4 hb5 hW4.size).size (.cells #[.bool n1, .slice a1 k1 c1, .bool n2, .slice a2 k2 c2] 37)
      replace bT := (bT.keep hb5).alloc (.cells #[.bool n1, .slice a1 k1 c1, .bool n2, .slice a2 k2 c2] 37)
      have bX : Box4 (W5.alloc (.cells #[.bool n1, .slice a1 k1 c1, .bool n2, .slice a2 k2 c2] 37)) W5.heap.size (.bool n1) (.slice a1 k1 c1) (.bool n2) (.slice a2 k2 c2) := Box4.new _ _ _ _ _ _ rfl
      replace E5 := E5.alloc (.cells #[.bool n1, .slice a1 k1 c1, .bool n2, .slice a2 k2 c2] 37)
      clear E4 hb5 hW4
      go_wp2_with fail
      refine (ve_dot E5 (.tail _ (.head _)) (.tail _ (.tail _ (.tail _ (.head _)))) (by omega) (by omega) (by omega)).mono ?_
      rintro e W6 ⟨n3, a3, k3, c3, n4, a4, k4, c4, rfl, E6, hb6⟩
      have hW6 := (below_call hW5 hb6 hW5.size).alloc (below_call hW5 hb6 hW5.size).size (.cells #[.bool n3, .slice a3 k3 c3, .bool n4, .slice a4 k4 c4] 37)
      replace bT := (bT.keep hb6).alloc (.cells #[.bool n3, .slice a3 k3 c3, .bool n4, .slice a4 k4 c4] 37)
      replace bX := (bX.keep hb6).alloc (.cells #[.bool n3, .slice a3 k3 c3, .bool n4, .slice a4 k4 c4] 37)
      have bY : Box4 (W6.alloc (.cells #[.bool n3, .slice a3 k3 c3, .bool n4, .slice a4 k4 c4] 37)) W6.heap.size (.bool n3) (.slice a3 k3 c3) (.bool n4) (.slice a4 k4 c4) := Box4.new _ _ _ _ _ _ rfl
      replace E6 := E6.alloc (.cells #[.bool n3, .slice a3 k3 c3, .bool n4, .slice a4 k4 c4] 37)
      clear E5 hb6 hW5
      go_wp2_with fail
      refine (ve_dot E6 (.tail _ (.tail _ (.tail _ (.head _)))) (.tail _ (.tail _ (.head _))) (by omega) (by omega) (by omega)).mono ?_
      rintro e W7 ⟨n5, a5, k5, c5, n6, a6, k6, c6, rfl, E7, hb7⟩
      have hW7 := ((below_call hW6 hb7 hW6.size).alloc (below_call hW6 hb7 hW6.size).size (.cells #[.bool n5, .slice a5 k5 c5, .bool n6, .slice a6 k6 c6] 37)).drew
      replace bT : Box4 (W7.alloc (.cells #[.bool n5, .slice a5 k5 c5, .bool n6, .slice a6 k6 c6] 37)).drew _ _ _ _ _ := (bT.keep hb7).alloc (.cells #[.bool n5, .slice a5 k5 c5, .bool n6, .slice a6 k6 c6] 37)
      replace bX : Box4 (W7.alloc (.cells #[.bool n5, .slice a5 k5 c5, .bool n6, .slice a6 k6 c6] 37)).drew _ _ _ _ _ := (bX.keep hb7).alloc (.cells #[.bool n5, .slice a5 k5 c5, .bool n6, .slice a6 k6 c6] 37)
      replace bY : Box4 (W7.alloc (.cells #[.bool n5, .slice a5 k5 c5, .bool n6, .slice a6 k6 c6] 37)).drew _ _ _ _ _ := (bY.keep hb7).alloc (.cells #[.bool n5, .slice a5 k5 c5, .bool n6, .slice a6 k6 c6] 37)
      have bZ : Box4 (W7.alloc (.cells #[.bool n5, .slice a5 k5 c5, .bool n6, .slice a6 k6 c6] 37)).drew W7.heap.size (.bool n5) (.slice a5 k5 c5) (.bool n6) (.slice a6 k6 c6) := Box4.new _ _ _ _ _ _ rfl
      have E := ((E7.alloc (.cells #[.bool n5, .slice a5 k5 c5, .bool n6, .slice a6 k6 c6] 37)).drew).rebase
      clear E6 E7 hb7 hW6
      go_wp2_with fail
      go_region_held3 (fun W' => W'.cell? ⟨w.heap.size, 0, none⟩ = some (.bool m1) ∧ W'.cell? ⟨w.heap.size, 1, none⟩ = some (.slice d1 T1 e1) ∧ W'.cell? ⟨w.heap.size, 2, none⟩ = some (.bool m2) ∧ W'.cell? ⟨w.heap.size, 3, none⟩ = some (.slice d2 T2 e2) ∧ W'.cell? ⟨W5.heap.size, 0, none⟩ = some (.bool n1) ∧ W'.cell? ⟨W5.heap.size, 1, none⟩ = some (.slice a1 k1 c1) ∧ W'.cell? ⟨W5.heap.size, 2, none⟩ = some (.bool n2) ∧ W'.cell? ⟨W5.heap.size, 3, none⟩ = some (.slice a2 k2 c2) ∧ W'.cell? ⟨W6.heap.size, 0, none⟩ = some (.bool n3) ∧ W'.cell? ⟨W6.heap.size, 1, none⟩ = some (.slice a3 k3 c3) ∧ W'.cell? ⟨W6.heap.size, 2, none⟩ = some (.bool n4) ∧ W'.cell? ⟨W6.heap.size, 3, none⟩ = some (.slice a4 k4 c4) ∧ W'.cell? ⟨W7.heap.size, 0, none⟩ = some (.bool n5) ∧ W'.cell? ⟨W7.heap.size, 1, none⟩ = some (.slice a5 k5 c5) ∧ W'.cell? ⟨W7.heap.size, 2, none⟩ = some (.bool n6) ∧ W'.cell? ⟨W7.heap.size, 3, none⟩ = some (.slice a6 k6 c6)) (exact keep16 (bT.keep E.bl) (bX.keep E.bl) (bY.keep E.bl) (bZ.keep E.bl)) (first
        | (go_at_call 19; go_must (refine (ve_num E _).mono ?_); rintro e wn ⟨rfl, En, -⟩; clear E; have E := En; clear En)
        | (go_at_call 41; go_must (refine (ve_mulRat E (by repeat (first | exact List.Mem.head _ | refine List.Mem.tail _ ?_)) (by repeat (first | exact List.Mem.head _ | refine List.Mem.tail _ ?_)) (by omega) (by omega)).mono ?_); rintro e wn ⟨nm, am, km, cm, np, ap, kp, cp, rfl, En, -⟩; clear E; have E := En; clear En)
        | (go_at_call 40; go_must (refine (ve_addRat E (by repeat (first | exact List.Mem.head _ | refine List.Mem.tail _ ?_)) (by repeat (first | exact List.Mem.head _ | refine List.Mem.tail _ ?_)) (by omega) (by omega)).mono ?_); rintro e wn ⟨ns, as', ks, cs, nt, at', kt, ct, rfl, En, -⟩; clear E; have E := En; clear En)
        | (go_at_call 33; go_must (refine (ve_sameRat E (by repeat (first | exact List.Mem.head _ | refine List.Mem.tail _ ?_)) (by repeat (first | exact List.Mem.head _ | refine List.Mem.tail _ ?_)) (by exact HD.out)).mono ?_); rintro e wn ⟨rfl, En, -⟩; clear E; have E := En; clear En)
        | (go_at_call 28; go_must (refine (ve_awake E).mono ?_); rintro e wn ⟨rfl, En, -⟩; clear E; have E := En; clear En))
      have HR := hid (below_call hW7 E.bl hW7.size)
      clear E bT bX bY bZ hW7
      go_wp2
      go_ret
      exact ⟨rfl, HR.out⟩
    · have HB3 := hid hW3
      clear hG hW3 HA HB HC HS HT0 bT
      go_wp2_with fail
      refine (awake4_any _).mono ?_
      rintro e W4 ⟨rfl, hb⟩
      have HR := hid (below_call HB3.out hb HB3.out.size)
      go_wp2
      go_ret
      exact ⟨rfl, HR.out⟩
  · have HB3 := hid hW1
    clear hW1 HA HB HC HT0 bT hsm x0 x1 x2 x3 lT
    go_wp2_with fail
    refine (awake4_any _).mono ?_
    rintro e W4 ⟨rfl, hb⟩
    have HR := hid (below_call HB3.out hb HB3.out.size)
    go_wp2
    go_ret
    exact ⟨rfl, HR.out⟩

theorem vecSums_any (w : World) (ao : Option Addr) (ka ca : Nat) (LA : List RQ) (bo : Option Addr) (kb cb : Nat) (LB : List RQ) (co : Option Addr) (kc cc : Nat) (LC : List RQ) (m1 : Bool) (d1 : Option Addr) (e1 : Nat) (t1 : List Nat) (m2 : Bool) (d2 : Option Addr) (e2 : Nat) (t2 : List Nat) (hka : ka = LA.length) (hA : RawRow w ao ca LA) (hkb : kb = LB.length) (hB : RawRow w bo cb LB) (hkc : kc = LC.length) (hC : RawRow w co cc LC) (h1 : SlAt w d1 e1 t1) (h2 : SlAt w d2 e2 t2) :
    Calls Try.prog 9 #[.slice ao ka ca, .slice bo kb cb, .slice co kc cc, .agg #[.bool m1, .slice d1 t1.length e1, .bool m2, .slice d2 t2.length e2]] w fun e w' => e = .returned (.bool true) ∧ Below w.heap.size w w' :=
  vecSums_w w ao bo co ka ca kb cb kc cc LA LB LC m1 m2 d1 d2 e1 e2 t1 t2 hka hkb hkc hA hB hC h1 h2

end Go.Proofs.Ytoeekdnmkhoadaa
