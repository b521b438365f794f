/-
  The law VecRows.
-/
import Derived.Test.YtoeekdnmkhoadaaVB
namespace Go.Proofs.Ytoeekdnmkhoadaa
open Go.RowKit Lm
set_option linter.unusedSimpArgs false
set_option linter.unusedVariables false
set_option maxRecDepth 100000

theorem rawTab2 {W0 : World} {g : Nat} (hg : g = W0.heap.size) {a b : Option Addr} {k1 c1 k2 c2 : Nat} {A B : List RQ} (e1 : k1 = A.length) (e2 : k2 = B.length) (h1 : RawRow W0 a c1 A) (h2 : RawRow W0 b c2 B) : RawTab (W0.alloc (.cells #[.slice a k1 c1, .slice b k2 c2] 47)) (some ⟨g, 0, none⟩) 2 [A, B] := by
  subst hg
  have h := heap_alloc_new W0 (.cells #[.slice a k1 c1, .slice b k2 c2] 47)
  have hb : Below W0.heap.size W0 (W0.alloc (.cells #[.slice a k1 c1, .slice b k2 c2] 47)) := (Below.refl _ _).alloc (Nat.le_refl _) _
  refine ⟨Nat.le_refl _, by unfold maxLen; omega, .inr ⟨W0.heap.size, 0, rfl, (Array.getElem?_eq_some_iff.1 h).1, fun i hi => ?_⟩⟩
  simp at hi
  rcases (show i = 0 ∨ i = 1 by omega) with rfl | rfl
  · exact ⟨_, _, _, by rw [cell_of_row _ _ _ _ _ _ h]; rfl, e1, h1.below hb⟩
  · exact ⟨_, _, _, by rw [cell_of_row _ _ _ _ _ _ h]; rfl, e2, h2.below hb⟩

set_option maxHeartbeats 6400000 in
theorem vecRows_any (w : World) (ao : Option Addr) (ka ca : Nat) (LA : List RQ) (bo : Option Addr) (kb cb : Nat) (LB : List RQ) (m1 : Bool) (d1 : Option Addr) (e1 : Nat) (t1 : List Nat) (m2 : Bool) (d2 : Option Addr) (e2 : Nat) (t2 : List Nat) (hka : ka = LA.length) (hA : RawRow w ao ca LA) (hkb : kb = LB.length) (hB : RawRow w bo cb LB) (h1 : SlAt w d1 e1 t1) (h2 : SlAt w d2 e2 t2) :
    Calls Try.prog 6 #[.slice ao ka ca, .slice bo kb cb, .agg #[.bool m1, .slice d1 t1.length e1, .bool m2, .slice d2 t2.length e2]] w fun e w' => e = .returned (.bool true) ∧ Below w.heap.size w w' := by
  have hk1 := slat_len h1
  have hk2 := slat_len h2
  have HT0 : Hid (∀ n, t1.length ≤ n → t2.length ≤ n → RArg w (.agg #[.bool m1, .slice d1 t1.length e1, .bool m2, .slice d2 t2.length e2]) n (ratMean m1 t1 m2 t2)) := hid (fun n q1 q2 => ⟨_, _, t1, _, _, t2, rfl, ⟨_, _, rfl, h1⟩, ⟨_, _, rfl, h2⟩, q1, q2, rfl⟩)
  clear h1 h2
  generalize ratMean m1 t1 m2 t2 = t at *
  generalize t1.length = T1 at *
  generalize t2.length = T2 at *
  have fa : ka ≤ 9223372036854775807 := by have := hA.lenm; omega
  have fb : kb ≤ 9223372036854775807 := by have := hB.lenm; omega
  have HLA := hid hka
  have HLB := hid hkb
  have HA := hid hA
  have HB := hid hB
  clear hA hB hka hkb
  go_enter Try.func6, Try.ntmps6
  go_wp2_with fail
  have hW0 : Below w.heap.size w (w.alloc (.cells #[.bool m1, .slice d1 T1 e1, .bool m2, .slice d2 T2 e2] 37)) := (by repeat (first | exact Below.refl _ _ | refine Below.alloc ?_ ?_ _ | refine Below.setCell ?_ ?_ _ | refine Below.drew ?_ | refine below_drewN ?_ _ | (· simp) | omega | (· simp; omega) | exact Below.size (by assumption) | assumption | refine below_call ?_ (by assumption) ?_))
  have hW1 : Below w.heap.size w ((w.alloc (.cells #[.bool m1, .slice d1 T1 e1, .bool m2, .slice d2 T2 e2] 37)).alloc (.cells #[.slice ao ka ca, .slice bo kb cb] 47)) := (by repeat (first | exact Below.refl _ _ | refine Below.alloc ?_ ?_ _ | refine Below.setCell ?_ ?_ _ | refine Below.drew ?_ | refine below_drewN ?_ _ | (· simp) | omega | (· simp; omega) | exact Below.size (by assumption) | assumption | refine below_call ?_ (by assumption) ?_))
  have bT : Box4 ((w.alloc (.cells #[.bool m1, .slice d1 T1 e1, .bool m2, .slice d2 T2 e2] 37)).alloc (.cells #[.slice ao ka ca, .slice bo kb cb] 47)) w.heap.size (.bool m1) (.slice d1 T1 e1) (.bool m2) (.slice d2 T2 e2) := (Box4.new _ _ _ _ _ _ rfl).alloc _
  have hTab := rawTab2 (W0 := w.alloc (.cells #[.bool m1, .slice d1 T1 e1, .bool m2, .slice d2 T2 e2] 37)) (g := w.heap.size + 1) (by simp) HLA.out HLB.out (HA.out.below hW0) (HB.out.below hW0)
  generalize (w.alloc (.cells #[.bool m1, .slice d1 T1 e1, .bool m2, .slice d2 T2 e2] 37)).alloc (.cells #[.slice ao ka ca, .slice bo kb cb] 47) = W1 at *
  refine (great4_any _ _ _ _ [LA, LB] rfl hTab).mono ?_
  rintro e W2 ⟨b, rfl, hsm, rfl⟩
  clear hTab hW0
  (try clear x0 x1 x2 x3 lT); obtain ⟨x0, x1, x2, x3⟩ := bT.c; have lT := bT.lt
  cases b
  · have HS := hid (hsm rfl)
    clear hsm
    go_wp2_with fail
    refine (great_r1 W2 W2.heap.size m1 m2 d1 d2 T1 e1 T2 e2 rfl hk1 hk2).mono ?_
    rintro e W3 ⟨rfl, rfl⟩
    have hW3 := hW1.alloc hW1.size (.cells #[.bool m1, .slice d1 T1 e1, .bool m2, .slice d2 T2 e2] 37)
    replace bT := bT.alloc (.cells #[.bool m1, .slice d1 T1 e1, .bool m2, .slice d2 T2 e2] 37)
    clear hW1 x0 x1 x2 x3 lT
    generalize W2.alloc (.cells #[.bool m1, .slice d1 T1 e1, .bool m2, .slice d2 T2 e2] 37) = W3 at *
    cases hG : greatR [(T1, T2)]
    · obtain ⟨q1, q2⟩ := great_small hG (T1, T2) (List.Mem.head _)
      have hks : ka + kb ≤ 198 := by
        have := HS.out.1
        have e1 := HLA.out
        have e2 := HLB.out
        simp [rowSum] at this
        omega
      have hAq : QSl W3 (.slice ao ka ca) 6 (LA.map RQ.r) := ⟨_, _, _, rfl, by rw [List.length_map]; exact HLA.out, (HA.out.below hW3).qat (HS.out.2 LA (by simp))⟩
      have hBq : QSl W3 (.slice bo kb cb) 6 (LB.map RQ.r) := ⟨_, _, _, rfl, by rw [List.length_map]; exact HLB.out, (HB.out.below hW3).qat (HS.out.2 LB (by simp))⟩
      have HNA : Hid ((LA.map RQ.r).length = ka) := hid (by rw [List.length_map]; exact HLA.out.symm)
      have HNB : Hid ((LB.map RQ.r).length = kb) := hid (by rw [List.length_map]; exact HLB.out.symm)
      generalize LA.map RQ.r = A at *
      generalize LB.map RQ.r = B at *
      have E : VE W3 W3 [((Value.agg #[Value.bool m1, Value.slice d1 T1 e1, Value.bool m2, Value.slice d2 T2 e2]), 6, t)] [] [(.slice ao ka ca, 6, A), (.slice bo kb cb, 6, B)] [] := (((VE.none W3).knowRow hBq).knowRow hAq).knowR ((HT0.out 6 q1 q2).below hW3)
      clear hAq hBq HA HB HS HT0 hG HLA HLB
      by_cases hab : ka = kb
      · subst hab
        have HLP : Hid ((plusR A t B).length = ka) := hid ((plusR_len (HNA.out.trans HNB.out.symm)).trans HNA.out)
        go_wp2_with fail
        refine (ve_dot E (.head _) (.tail _ (.head _)) (by omega) (by omega) (by omega)).mono ?_
        rintro e W4 ⟨n1, a1, k1, c1, n2, a2, k2, c2, rfl, E4, hb4⟩
        have hW4 := (below_call hW3 hb4 hW3.size).alloc (below_call hW3 hb4 hW3.size).size (.cells #[.bool n1, .slice a1 k1 c1, .bool n2, .slice a2 k2 c2] 37)
        replace bT := (bT.keep hb4).alloc (.cells #[.bool n1, .slice a1 k1 c1, .bool n2, .slice a2 k2 c2] 37)
        have bX : Box4 (W4.alloc (.cells #[.bool n1, .slice a1 k1 c1, .bool n2, .slice a2 k2 c2] 37)) W4.heap.size (.bool n1) (.slice a1 k1 c1) (.bool n2) (.slice a2 k2 c2) := Box4.new _ _ _ _ _ _ rfl
        replace E4 := E4.alloc (.cells #[.bool n1, .slice a1 k1 c1, .bool n2, .slice a2 k2 c2] 37)
        clear E hb4 hW3
        go_wp2_with fail
        refine (ve_rdot E4 (.head _) (.tail _ (.head _)) (by omega) (by omega) (by omega)).mono ?_
        rintro e W5 ⟨n3, a3, k3, c3, n4, a4, k4, c4, rfl, E5, hb5⟩
        have hW5 := (below_call hW4 hb5 hW4.size).alloc (below_call hW4 hb5 hW4.size).size (.cells #[.bool n3, .slice a3 k3 c3, .bool n4, .slice a4 k4 c4] 37)
        replace bT := (bT.keep hb5).alloc (.cells #[.bool n3, .slice a3 k3 c3, .bool n4, .slice a4 k4 c4] 37)
        replace bX := (bX.keep hb5).alloc (.cells #[.bool n3, .slice a3 k3 c3, .bool n4, .slice a4 k4 c4] 37)
        have bY : Box4 (W5.alloc (.cells #[.bool n3, .slice a3 k3 c3, .bool n4, .slice a4 k4 c4] 37)) W5.heap.size (.bool n3) (.slice a3 k3 c3) (.bool n4) (.slice a4 k4 c4) := Box4.new _ _ _ _ _ _ rfl
        replace E5 := E5.alloc (.cells #[.bool n3, .slice a3 k3 c3, .bool n4, .slice a4 k4 c4] 37)
        clear E4 hb5 hW4
        (try clear x0 x1 x2 x3 lT); obtain ⟨x0, x1, x2, x3⟩ := bT.c; have lT := bT.lt
        go_wp2_with fail
        refine (ve_plus E5 (.head _) (.tail _ (.tail _ (.head _))) (.tail _ (.head _)) (by omega) (by omega) (by omega) (by omega)).mono ?_
        rintro e W6 ⟨pa, pk, pc, rfl, hpk, E6, hb6⟩
        obtain rfl : ka = pk := by rw [hpk]; exact HLP.out.symm
        have hW6 := below_call hW5 hb6 hW5.size
        replace bT := bT.keep hb6
        replace bX := bX.keep hb6
        replace bY := bY.keep hb6
        have HSZ := hid (sz_qis (N := 4 * 6 + 4 * (6 + 6 + 6 + 6 + 8) + 18) (by omega) (E6.rs _ (.head _)))
        clear E5 hb6 hW5 hpk
        (try clear x0 x1 x2 x3 lT); obtain ⟨x0, x1, x2, x3⟩ := bT.c; have lT := bT.lt
        go_wp2_with fail
        refine (ve_rplus E6 _ (.tail _ (.head _)) (.tail _ (.tail _ (.head _))) (.tail _ (.tail _ (.head _))) (by omega) (by omega) (by omega) (by omega) (by omega) HSZ.out).mono ?_
        rintro e W7 ⟨ra, rk, rc, rfl, hrk, E7, hb7⟩
        obtain rfl : ka = rk := by rw [hrk]; exact HLP.out.symm
        have hW7 := below_call hW6 hb7 hW6.size
        obtain ⟨y0, y1, y2, y3⟩ := (bX.keep hb7).c
        obtain ⟨v0, v1, v2, v3⟩ := (bY.keep hb7).c
        have lX := (bX.keep hb7).lt
        have lY := (bY.keep hb7).lt
        clear E6 hb7 hW6 hrk x0 x1 x2 x3 lT bT bX bY
        go_wp2_with fail
        refine (ve_sameRat E7 (.tail _ (.head _)) (.head _) rfl).mono ?_
        rintro e W8 ⟨rfl, E8, hb8⟩
        have hW8 := below_call hW7 hb8 hW7.size
        clear E7 hb8 hW7 y0 y1 y2 y3 v0 v1 v2 v3 lX lY
        go_wp2_with fail
        refine (ve_num E8 _).mono ?_
        rintro e W9 ⟨rfl, E9, hb9⟩
        have hW9 := below_call hW8 hb9 hW8.size
        clear E8 hb9 hW8
        go_wp2_with fail
        refine (ve_sameRats E9 (.tail _ (.head _)) (.head _)).mono ?_
        rintro e WA ⟨rfl, EA, hbA⟩
        have hWA := below_call hW9 hbA hW9.size
        clear E9 hbA hW9
        go_wp2_with fail
        refine (ve_num EA _).mono ?_
        rintro e WB ⟨rfl, EB, hbB⟩
        have hWB := below_call hWA hbB hWA.size
        clear EA hbB hWA
        go_wp2_with fail
        refine (awake4_any _).mono ?_
        rintro e WC ⟨rfl, hbC⟩
        have HR := hid (below_call hWB hbC hWB.size)
        clear EB hbC hWB
        go_wp2
        go_ret
        exact ⟨rfl, HR.out⟩
      · clear E
        go_wp2_with fail
        refine (vdot_no _ _ _ _ _ _ _ hab fa fb).mono ?_
        rintro e W4 ⟨rfl, hb4⟩
        have hW4 := (below_call hW3 hb4 hW3.size).alloc (below_call hW3 hb4 hW3.size).size (.cells #[.bool false, .slice none 0 0, .bool false, .slice none 0 0] 37)
        replace bT := (bT.keep hb4).alloc (.cells #[.bool false, .slice none 0 0, .bool false, .slice none 0 0] 37)
        have bX : Box4 (W4.alloc (.cells #[.bool false, .slice none 0 0, .bool false, .slice none 0 0] 37)) W4.heap.size (.bool false) (.slice none 0 0) (.bool false) (.slice none 0 0) := Box4.new _ _ _ _ _ _ rfl
        clear hb4 hW3
        go_wp2_with fail
        refine (rdot_no _ _ _ _ _ _ _ hab fa fb).mono ?_
        rintro e W5 ⟨rfl, hb5⟩
        have hW5 := (below_call hW4 hb5 hW4.size).alloc (below_call hW4 hb5 hW4.size).size (.cells #[.bool false, .slice none 0 0, .bool false, .slice none 0 0] 37)
        replace bT := (bT.keep hb5).alloc (.cells #[.bool false, .slice none 0 0, .bool false, .slice none 0 0] 37)
        replace bX := (bX.keep hb5).alloc (.cells #[.bool false, .slice none 0 0, .bool false, .slice none 0 0] 37)
        have bY : Box4 (W5.alloc (.cells #[.bool false, .slice none 0 0, .bool false, .slice none 0 0] 37)) W5.heap.size (.bool false) (.slice none 0 0) (.bool false) (.slice none 0 0) := Box4.new _ _ _ _ _ _ rfl
        clear hb5 hW4
        (try clear x0 x1 x2 x3 lT); obtain ⟨x0, x1, x2, x3⟩ := bT.c; have lT := bT.lt
        go_wp2_with fail
        refine (plus_no _ _ _ _ _ _ _ _ _ _ _ _ _ _ _ hab fa fb).mono ?_
        rintro e W6 ⟨rfl, hb6⟩
        have hW6 := below_call hW5 hb6 hW5.size
        replace bT := bT.keep hb6
        replace bX := bX.keep hb6
        replace bY := bY.keep hb6
        clear hb6 hW5
        (try clear x0 x1 x2 x3 lT); obtain ⟨x0, x1, x2, x3⟩ := bT.c; have lT := bT.lt
        go_wp2_with fail
        refine (rplus_no _ _ _ _ _ _ _ _ _ _ _ _ _ _ _ hab fa fb).mono ?_
        rintro e W7 ⟨rfl, hb7⟩
        have hW7 := below_call hW6 hb7 hW6.size
        obtain ⟨y0, y1, y2, y3⟩ := (bX.keep hb7).c
        obtain ⟨v0, v1, v2, v3⟩ := (bY.keep hb7).c
        have lX := (bX.keep hb7).lt
        have lY := (bY.keep hb7).lt
        clear hb7 hW6 x0 x1 x2 x3 lT bT bX bY
        go_wp2_with fail
        refine (sameZero_any _).mono ?_
        rintro e W8 ⟨rfl, hb8⟩
        have hW8 := below_call hW7 hb8 hW7.size
        clear hb8 hW7 y0 y1 y2 y3 v0 v1 v2 v3 lX lY
        go_wp2_with fail
        refine (ve_num (VE.none _) _).mono ?_
        rintro e W9 ⟨rfl, -, hb9⟩
        have hW9 := below_call hW8 hb9 hW8.size
        clear hb9 hW8
        go_wp2_with fail
        refine (sameRats_any _ _ _ _ _ _ 0 0 [] (qis_nil _ _) (qis_nil _ _)).mono ?_
        rintro e WA ⟨rfl, hbA⟩
        have hWA := below_call hW9 hbA hW9.size
        clear hbA hW9
        go_wp2_with fail
        refine (ve_num (VE.none _) _).mono ?_
        rintro e WB ⟨rfl, -, hbB⟩
        have hWB := below_call hWA hbB hWA.size
        clear hbB hWA
        go_wp2_with fail
        refine (awake4_any _).mono ?_
        rintro e WC ⟨rfl, hbC⟩
        have HR := hid (below_call hWB hbC hWB.size)
        clear hbC hWB
        go_wp2
        go_ret
        exact ⟨rfl, HR.out⟩
    · have HB3 := hid hW3
      clear hG hW3 HA HB HS HT0 bT
      go_wp2_with fail
      refine (awake4_any _).mono ?_
      rintro e W4 ⟨rfl, hb⟩
      have HR := hid (below_call HB3.out hb HB3.out.size)
      go_wp2
      go_ret
      exact ⟨rfl, HR.out⟩
  · have HB3 := hid hW1
    clear hW1 HA HB HT0 bT hsm x0 x1 x2 x3 lT
    go_wp2_with fail
    refine (awake4_any _).mono ?_
    rintro e W4 ⟨rfl, hb⟩
    have HR := hid (below_call HB3.out hb HB3.out.size)
    go_wp2
    go_ret
    exact ⟨rfl, HR.out⟩

end Go.Proofs.Ytoeekdnmkhoadaa
