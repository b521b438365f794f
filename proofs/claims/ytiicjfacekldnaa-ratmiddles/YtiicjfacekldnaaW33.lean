/-
  Walks: whether a quotient may be, and what it counts as.
-/
import Derived.Test.YtiicjfacekldnaaRMath
namespace Go.Proofs.Ytiicjfacekldnaa
open Go.RowKit Lm
set_option linter.unusedSimpArgs false
set_option linter.unusedVariables false
set_option maxRecDepth 100000

theorem may_sl (w : World) (neg : Bool) (s : Value) (l : List Nat) (h : Sl w s l) :
    Calls Try.prog 86 #[.agg #[.bool neg, s]] w fun e w' => e = .returned (.bool (mayB neg l)) ∧ Below w.heap.size w w' := by
  obtain ⟨ao, cap, rfl, h1⟩ := h
  exact may_any w neg ao cap l h1

/-- Whether a quotient may be. -/
def ratMayB (n1 : Bool) (l1 : List Nat) (n2 : Bool) (l2 : List Nat) : Bool :=
  mayB n1 l1 && (mayB n2 l2 && (if cmpI (sgn n2 (val l2)) 0 = 0 then cmpI (sgn n1 (val l1)) 0 == 0 else decide (0 < cmpI (sgn n2 (val l2)) 0) && decide (((Nat.gcd (sgn n1 (val l1)).natAbs (sgn n2 (val l2)).natAbs : Nat) : Int) = 1)))

theorem mean_may {neg : Bool} {l : List Nat} (h : mayB neg l = true) : mean neg l = sgn neg (val l) := by unfold mean; rw [h]; rfl

set_option maxHeartbeats 3200000 in
theorem ratMay_any (w : World) (n1 n2 : Bool) (s1 s2 : Value) (l1 l2 : List Nat) (h1 : Sl w s1 l1) (h2 : Sl w s2 l2) (k1 : l1.length ≤ 400000) (k2 : l2.length ≤ 400000) :
    Calls Try.prog 38 #[.agg #[.bool n1, s1, .bool n2, s2]] w fun e w' => e = .returned (.bool (ratMayB n1 l1 n2 l2)) ∧ Below w.heap.size w w' := by
  have HX : Hid (Arg w (.agg #[.bool n1, s1]) l1.length (mean n1 l1)) := hid ⟨n1, s1, l1, rfl, h1, Nat.le_refl _, rfl⟩
  have HY : Hid (Arg w (.agg #[.bool n2, s2]) l2.length (mean n2 l2)) := hid ⟨n2, s2, l2, rfl, h2, Nat.le_refl _, rfl⟩
  have HS1 := hid h1
  have HS2 := hid h2
  have HM : Hid (ratMayB n1 l1 n2 l2 = ratMayB n1 l1 n2 l2) := hid rfl
  clear h1 h2
  go_enter Try.func38, Try.ntmps38
  go_wp2_with fail
  have hW0 : Below w.heap.size w (w.alloc (.cells #[.bool n1, s1, .bool n2, s2] 43)) := (by repeat (first | exact Below.refl _ _ | refine Below.alloc ?_ ?_ _ | refine Below.setCell ?_ ?_ _ | refine Below.drew ?_ | refine below_drewN ?_ _ | (· simp) | omega | (· simp; omega) | exact Below.size (by assumption) | assumption | refine below_call ?_ (by assumption) ?_))
  have bA : Box4 (w.alloc (.cells #[.bool n1, s1, .bool n2, s2] 43)) w.heap.size (.bool n1) s1 (.bool n2) s2 := Box4.new _ _ _ _ _ _ rfl
  generalize w.alloc (.cells #[.bool n1, s1, .bool n2, s2] 43) = W0 at *
  refine (may_sl _ n1 s1 l1 (HS1.out.below hW0)).mono ?_
  rintro e w1 ⟨rfl, hb1⟩
  have hW1 := below_call hW0 hb1 hW0.size
  replace bA := bA.keep hb1
  obtain ⟨x0, x1, x2, x3⟩ := bA.c
  clear hb1
  cases hm1 : mayB n1 l1
  · have HR : Hid (ratMayB n1 l1 n2 l2 = false) := hid (by simp [ratMayB, hm1])
    clear hm1
    go_wp2
    go_ret
    exact ⟨ret_bool HR.out.symm, hW1⟩
  · have HM1 := hid (mean_may hm1)
    have HB1 := hid hm1
    clear hm1
    go_wp2_with fail
    refine (may_sl _ n2 s2 l2 (HS2.out.below hW1)).mono ?_
    rintro e w2 ⟨rfl, hb2⟩
    have hW2 := below_call hW1 hb2 hW1.size
    replace bA := bA.keep hb2
    clear x0 x1 x2 x3
    obtain ⟨x0, x1, x2, x3⟩ := bA.c
    clear hb2
    cases hm2 : mayB n2 l2
    · have HR : Hid (ratMayB n1 l1 n2 l2 = false) := hid (by simp [ratMayB, hm2])
      clear hm2
      go_wp2
      go_ret
      exact ⟨ret_bool HR.out.symm, hW2⟩
    · have HM2 := hid (mean_may hm2)
      have HR : Hid (ratMayB n1 l1 n2 l2 = (if cmpI (sgn n2 (val l2)) 0 = 0 then cmpI (sgn n1 (val l1)) 0 == 0 else decide (0 < cmpI (sgn n2 (val l2)) 0) && decide (((Nat.gcd (sgn n1 (val l1)).natAbs (sgn n2 (val l2)).natAbs : Nat) : Int) = 1))) := hid (by unfold ratMayB; rw [hm2, HB1.out]; simp)
      rw [HM1.out] at HX
      rw [HM2.out] at HY
      clear hm2
      generalize sgn n1 (val l1) = p at *
      generalize sgn n2 (val l2) = q at *
      go_wp2_with fail
      refine (sign_any _ _ _ q (HY.out.below hW2)).mono ?_
      rintro e w3 ⟨rfl, hb3⟩
      have hW3 := below_call hW2 hb3 hW2.size
      replace bA := bA.keep hb3
      clear x0 x1 x2 x3
      obtain ⟨x0, x1, x2, x3⟩ := bA.c
      clear hb3
      by_cases hq : cmpI q 0 = 0
      · have HR2 : Hid (ratMayB n1 l1 n2 l2 = (cmpI p 0 == 0)) := hid (by rw [HR.out, if_pos hq])
        rw [hq]
        clear hq
        go_wp2_with fail
        refine (sign_any _ _ _ p (HX.out.below hW3)).mono ?_
        rintro e w4 ⟨rfl, hb4⟩
        have hW4 := below_call hW3 hb4 hW3.size
        clear hb4
        go_wp2
        go_ret
        exact ⟨ret_bool HR2.out.symm, hW4⟩
      · have hqb : (cmpI q 0 == 0) = false := by simpa using hq
        have HR2 : Hid (ratMayB n1 l1 n2 l2 = (decide (0 < cmpI q 0) && decide (((Nat.gcd p.natAbs q.natAbs : Nat) : Int) = 1))) := hid (by rw [HR.out, if_neg hq])
        clear hq
        go_wp2_with fail
        refine (sign_any _ _ _ q (HY.out.below hW3)).mono ?_
        rintro e w4 ⟨rfl, hb4⟩
        have hW4 := below_call hW3 hb4 hW3.size
        replace bA := bA.keep hb4
        clear x0 x1 x2 x3
        obtain ⟨x0, x1, x2, x3⟩ := bA.c
        clear hb4 hqb
        by_cases hg : 0 < cmpI q 0
        · have hgb : decide (0 < cmpI q 0) = true := decide_eq_true hg
          have HR3 : Hid (ratMayB n1 l1 n2 l2 = decide (((Nat.gcd p.natAbs q.natAbs : Nat) : Int) = 1)) := hid (by rw [HR2.out, hgb]; simp)
          clear hg
          go_wp2_with fail
          refine (gcd_num _ _ _ _ _ p q (HX.out.below hW4) (HY.out.below hW4) k1 k2).mono ?_
          rintro e w5 ⟨ng, ag, kg, cg, rfl, Ig, hb5⟩
          have hW5 := below_call hW4 hb5 hW4.size
          have IG := hid Ig
          clear hb5 Ig x0 x1 x2 x3
          go_wp2_with fail
          refine (isOne_any _ _ _ _ IG.out.arg).mono ?_
          rintro e w6 ⟨rfl, hb6⟩
          have hW6 := below_call hW5 hb6 hW5.size
          clear hb6
          go_wp2
          go_ret
          exact ⟨ret_bool HR3.out.symm, hW6⟩
        · have hgb : decide (0 < cmpI q 0) = false := decide_eq_false hg
          have HR3 : Hid (ratMayB n1 l1 n2 l2 = false) := hid (by rw [HR2.out, hgb]; simp)
          clear hg
          go_wp2
          go_ret
          exact ⟨ret_bool HR3.out.symm, hW4⟩

/-- What is counted: two numbers, a quotient's. -/
def RCnt (n : Nat) (r : Rat) (w : World) (e : Ending) (w' : World) : Prop :=
  ∃ m1 b1 j1 d1 m2 b2 j2 d2, e = .returned (.agg #[.bool m1, .slice b1 j1 d1, .bool m2, .slice b2 j2 d2]) ∧ Arg w' (.agg #[.bool m1, .slice b1 j1 d1]) n r.num ∧ Arg w' (.agg #[.bool m2, .slice b2 j2 d2]) n (r.den : Int) ∧ Below w.heap.size w w'

theorem may_form {n1 : Bool} {l1 : List Nat} {n2 : Bool} {l2 : List Nat} (h : ratMayB n1 l1 n2 l2 = true) (hq : cmpI (mean n2 l2) 0 ≠ 0) : formB n1 l1 n2 l2 := by
  unfold ratMayB at h
  simp only [Bool.and_eq_true] at h
  obtain ⟨m1, m2, h⟩ := h
  rw [mean_may m2] at hq
  rw [if_neg hq] at h
  simp only [Bool.and_eq_true, decide_eq_true_eq] at h
  refine ⟨m1, m2, ?_, ?_⟩
  · have := h.1
    unfold cmpI at this
    split at this
    · omega
    · split at this <;> omega
  · have := h.2
    rw [sgn_abs, sgn_abs] at this
    omega
theorem form_may {n1 : Bool} {l1 : List Nat} {n2 : Bool} {l2 : List Nat} (h : formB n1 l1 n2 l2) : ratMayB n1 l1 n2 l2 = true ∧ cmpI (mean n2 l2) 0 ≠ 0 := by
  obtain ⟨m1, m2, hq, hg⟩ := h
  have hc : cmpI (sgn n2 (val l2)) 0 = 1 := cmpI_gt hq
  refine ⟨?_, by rw [mean_may m2, hc]; omega⟩
  unfold ratMayB
  rw [m1, m2, hc, sgn_abs, sgn_abs, hg]
  simp

theorem ris_1 {w : World} {lo n : Nat} {r : Rat} {n1 n2 : Bool} {a1 a2 : Option Addr} {k1 c1 k2 c2 : Nat} (h : RIs w lo (.agg #[.bool n1, .slice a1 k1 c1, .bool n2, .slice a2 k2 c2]) n r) : Is w lo (.agg #[.bool n1, .slice a1 k1 c1]) n r.num := by
  obtain ⟨_, _, _, _, _, _, _, _, he, I1, I2⟩ := h
  simp only [Value.agg.injEq, Array.mk.injEq, List.cons.injEq, Value.bool.injEq, Value.slice.injEq, and_true] at he
  obtain ⟨rfl, ⟨rfl, rfl, rfl⟩, rfl, rfl, rfl, rfl⟩ := he
  exact I1
theorem ris_2 {w : World} {lo n : Nat} {r : Rat} {n1 n2 : Bool} {a1 a2 : Option Addr} {k1 c1 k2 c2 : Nat} (h : RIs w lo (.agg #[.bool n1, .slice a1 k1 c1, .bool n2, .slice a2 k2 c2]) n r) : Is w lo (.agg #[.bool n2, .slice a2 k2 c2]) n (r.den : Int) := by
  obtain ⟨_, _, _, _, _, _, _, _, he, I1, I2⟩ := h
  simp only [Value.agg.injEq, Array.mk.injEq, List.cons.injEq, Value.bool.injEq, Value.slice.injEq, and_true] at he
  obtain ⟨rfl, ⟨rfl, rfl, rfl⟩, rfl, rfl, rfl, rfl⟩ := he
  exact I2

set_option maxHeartbeats 3200000 in
theorem ratCounted_any (w : World) (u : Value) (n : Nat) (r : Rat) (h : RArg w u n r) (hn : n ≤ 400000) :
    Calls Try.prog 89 #[u] w (RCnt (n + 2) r w) := by
  obtain ⟨n1, s1, l1, n2, s2, l2, rfl, h1, h2, k1, k2, rfl⟩ := h
  have HX : Hid (Arg w (.agg #[.bool n1, s1]) l1.length (mean n1 l1)) := hid ⟨n1, s1, l1, rfl, h1, Nat.le_refl _, rfl⟩
  have HY : Hid (Arg w (.agg #[.bool n2, s2]) l2.length (mean n2 l2)) := hid ⟨n2, s2, l2, rfl, h2, Nat.le_refl _, rfl⟩
  have HS1 := hid h1
  have HS2 := hid h2
  obtain ⟨a1, c1, rfl, -⟩ := h1
  obtain ⟨a2, c2, rfl, -⟩ := h2
  have HK1 := hid k1
  have HK2 := hid k2
  have HL1 : Hid (l1.length ≤ 400000) := hid (by omega)
  have HL2 : Hid (l2.length ≤ 400000) := hid (by omega)
  obtain ⟨L1, hL1⟩ : ∃ L1, L1 = l1.length := ⟨_, rfl⟩
  obtain ⟨L2, hL2⟩ : ∃ L2, L2 = l2.length := ⟨_, rfl⟩
  rw [← hL1] at HX HS1 HK1 ⊢
  rw [← hL2] at HY HS2 HK2 ⊢
  clear k1 k2 hL1 hL2
  go_enter Try.func89, Try.ntmps89
  go_wp2_with fail
  have hW0 : Below w.heap.size w ((w.alloc (.cells #[.bool n1, .slice a1 L1 c1, .bool n2, .slice a2 L2 c2] 43)).alloc (.cells #[.bool false, .slice none 0 0, .bool false, .slice none 0 0] 43)) := (by repeat (first | exact Below.refl _ _ | refine Below.alloc ?_ ?_ _ | refine Below.setCell ?_ ?_ _ | refine Below.drew ?_ | refine below_drewN ?_ _ | (· simp) | omega | (· simp; omega) | exact Below.size (by assumption) | assumption | refine below_call ?_ (by assumption) ?_))
  have bA : Box4 ((w.alloc (.cells #[.bool n1, .slice a1 L1 c1, .bool n2, .slice a2 L2 c2] 43)).alloc (.cells #[.bool false, .slice none 0 0, .bool false, .slice none 0 0] 43)) w.heap.size (.bool n1) (.slice a1 L1 c1) (.bool n2) (.slice a2 L2 c2) := (Box4.new _ _ _ _ _ _ rfl).alloc _
  have bR : Box4 ((w.alloc (.cells #[.bool n1, .slice a1 L1 c1, .bool n2, .slice a2 L2 c2] 43)).alloc (.cells #[.bool false, .slice none 0 0, .bool false, .slice none 0 0] 43)) (w.heap.size + 1) (.bool false) (.slice none 0 0) (.bool false) (.slice none 0 0) := Box4.new _ _ _ _ _ _ (by simp)
  generalize (w.alloc (.cells #[.bool n1, .slice a1 L1 c1, .bool n2, .slice a2 L2 c2] 43)).alloc (.cells #[.bool false, .slice none 0 0, .bool false, .slice none 0 0] 43) = W0 at *
  refine (ratMay_any _ n1 n2 _ _ l1 l2 (HS1.out.below hW0) (HS2.out.below hW0) HL1.out HL2.out).mono ?_
  rintro e w1 ⟨rfl, hb1⟩
  have hW1 := below_call hW0 hb1 hW0.size
  replace bA := bA.keep hb1
  replace bR := bR.keep hb1
  obtain ⟨x0, x1, x2, x3⟩ := bA.c
  clear hb1
  cases hm : ratMayB n1 l1 n2 l2
  · have HF : Hid (ratMean n1 l1 n2 l2 = 0) := hid (ratMean_not (fun h => by rw [(form_may h).1] at hm; simp at hm))
    clear hm
    go_wp2_with fail
    refine (ratOf_say _ 0 (by omega) (by omega)).mono ?_
    rintro e w2 ⟨m1, b1, j1, d1, m2, b2, j2, d2, rfl, HI, hb2⟩
    have hWn := below_call hW1 hb2 hW1.size
    have hz := bR.lt
    replace bR := bR.keep hb2
    have J := hid HI
    clear hb2 HI x0 x1 x2 x3
    obtain ⟨x0, x1, x2, x3⟩ := bR.c
    have xf := bR.f
    go_wp2
    refine bodyPost_ret (v := .agg #[.bool m1, .slice b1 j1 d1, .bool m2, .slice b2 j2 d2]) ?_ rfl ⟨m1, b1, j1, d1, m2, b2, j2, d2, rfl, ?_, ?_, (((hWn.setCell (by show w.heap.size ≤ w.heap.size + 1; omega) _).setCell (by show w.heap.size ≤ w.heap.size + 1; omega) _).setCell (by show w.heap.size ≤ w.heap.size + 1; omega) _).setCell (by show w.heap.size ≤ w.heap.size + 1; omega) _⟩
    · simp [results, Try.results89, go_sem, x0, x1, x2, x3]
    · rw [HF.out]
      exact (((((ris_1 J.out).setCell (by show w.heap.size + 1 < _; omega) _).setCell (by show w.heap.size + 1 < _; omega) _).setCell (by show w.heap.size + 1 < _; omega) _).setCell (by show w.heap.size + 1 < _; omega) _).arg.mono (by omega)
    · rw [HF.out]
      exact (((((ris_2 J.out).setCell (by show w.heap.size + 1 < _; omega) _).setCell (by show w.heap.size + 1 < _; omega) _).setCell (by show w.heap.size + 1 < _; omega) _).setCell (by show w.heap.size + 1 < _; omega) _).arg.mono (by omega)
  · go_wp2_with fail
    refine (sign_any _ _ _ _ (HY.out.below hW1)).mono ?_
    rintro e w2 ⟨rfl, hb2⟩
    have hW2 := below_call hW1 hb2 hW1.size
    replace bA := bA.keep hb2
    replace bR := bR.keep hb2
    clear hb2 x0 x1 x2 x3
    obtain ⟨x0, x1, x2, x3⟩ := bA.c
    by_cases hq : cmpI (mean n2 l2) 0 = 0
    · have HF : Hid (ratMean n1 l1 n2 l2 = 0) := hid (ratMean_not (fun h => (form_may h).2 hq))
      rw [hq]
      clear hq hm
      go_wp2_with fail
      refine (ratOf_say _ 0 (by omega) (by omega)).mono ?_
      rintro e w3 ⟨m1, b1, j1, d1, m2, b2, j2, d2, rfl, HI, hb2⟩
      have hWn := below_call hW2 hb2 hW2.size
      have hz := bR.lt
      replace bR := bR.keep hb2
      have J := hid HI
      clear hb2 HI x0 x1 x2 x3
      obtain ⟨x0, x1, x2, x3⟩ := bR.c
      have xf := bR.f
      go_wp2
      refine bodyPost_ret (v := .agg #[.bool m1, .slice b1 j1 d1, .bool m2, .slice b2 j2 d2]) ?_ rfl ⟨m1, b1, j1, d1, m2, b2, j2, d2, rfl, ?_, ?_, (((hWn.setCell (by show w.heap.size ≤ w.heap.size + 1; omega) _).setCell (by show w.heap.size ≤ w.heap.size + 1; omega) _).setCell (by show w.heap.size ≤ w.heap.size + 1; omega) _).setCell (by show w.heap.size ≤ w.heap.size + 1; omega) _⟩
      · simp [results, Try.results89, go_sem, x0, x1, x2, x3]
      · rw [HF.out]
        exact (((((ris_1 J.out).setCell (by show w.heap.size + 1 < _; omega) _).setCell (by show w.heap.size + 1 < _; omega) _).setCell (by show w.heap.size + 1 < _; omega) _).setCell (by show w.heap.size + 1 < _; omega) _).arg.mono (by omega)
      · rw [HF.out]
        exact (((((ris_2 J.out).setCell (by show w.heap.size + 1 < _; omega) _).setCell (by show w.heap.size + 1 < _; omega) _).setCell (by show w.heap.size + 1 < _; omega) _).setCell (by show w.heap.size + 1 < _; omega) _).arg.mono (by omega)
    · have hqb : (cmpI (mean n2 l2) 0 == 0) = false := by simpa using hq
      have hf := may_form hm hq
      have hp := ratMean_parts hf
      have HP1 : Hid ((ratMean n1 l1 n2 l2).num = mean n1 l1) := hid (by rw [hp.1, mean_may hf.1])
      have HP2 : Hid (((ratMean n1 l1 n2 l2).den : Int) = mean n2 l2) := hid (by rw [hp.2, mean_may hf.2.1])
      obtain ⟨y0, y1, y2, y3⟩ := bR.c
      have yf := bR.f
      have lA := bA.lt
      have lR := bR.lt
      clear hq hm hf hp
      go_wp2
      have hWn : Below w.heap.size w ((((w2.setCell ⟨w.heap.size + 1, 0, none⟩ (.bool n1)).setCell ⟨w.heap.size + 1, 1, none⟩ (.slice a1 L1 c1)).setCell ⟨w.heap.size + 1, 2, none⟩ (.bool n2)).setCell ⟨w.heap.size + 1, 3, none⟩ (.slice a2 L2 c2)) := (((hW2.setCell (by show w.heap.size ≤ w.heap.size + 1; omega) _).setCell (by show w.heap.size ≤ w.heap.size + 1; omega) _).setCell (by show w.heap.size ≤ w.heap.size + 1; omega) _).setCell (by show w.heap.size ≤ w.heap.size + 1; omega) _
      refine bodyPost_ret (v := .agg #[.bool n1, .slice a1 L1 c1, .bool n2, .slice a2 L2 c2]) ?_ rfl ⟨n1, a1, L1, c1, n2, a2, L2, c2, rfl, ?_, ?_, hWn⟩
      · simp [results, Try.results89, go_sem, y0, y1, y2, y3]
      · rw [HP1.out]
        exact (HX.out.below hWn).mono (by have := HK1.out; omega)
      · rw [HP2.out]
        exact (HY.out.below hWn).mono (by have := HK2.out; omega)

end Go.Proofs.Ytiicjfacekldnaa
