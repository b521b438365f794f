/-
  Walks: whether a quotient may be, by the document.
-/
import Derived.Test.YtiicjfacekldnaaRC
import Derived.Test.YtiicjfacekldnaaRX
namespace Go.Proofs.Ytiicjfacekldnaa
open Go.RowKit Lm
set_option linter.unusedSimpArgs false
set_option linter.unusedVariables false
set_option maxRecDepth 100000

theorem may_nil {n : Bool} : mayB n [] = !n := by simp [mayB]
theorem rm_nil {n1 : Bool} {l1 : List Nat} (o1 : ok l1) : ratMayB n1 l1 false [] = (decide (l1.length = 0) && !n1) := by
  have e : cmpI (sgn false (val [])) 0 = 0 := by simp [val, sgn, cmpI]
  have m2 : mayB false [] = true := by simp [mayB]
  unfold ratMayB
  rw [if_pos e, m2, Bool.true_and]
  by_cases h : l1.length = 0
  · have := List.eq_nil_of_length_eq_zero h
    subst this
    rw [may_nil]
    cases n1 <;> simp [val, sgn, cmpI]
  · rw [decide_eq_false h, Bool.false_and]
    cases hm : mayB n1 l1
    · rfl
    · have h2 : val l1 ≠ 0 := fun h3 => h (by rw [val_eq_zero (may_canon hm) h3]; rfl)
      have h4 : cmpI (sgn n1 (val l1)) 0 ≠ 0 := cmpI_ne (by
        have := sgn_abs n1 (val l1)
        omega)
      simpa using h4
theorem rm_may {n1 : Bool} {l1 : List Nat} {n2 : Bool} {l2 : List Nat} (m1 : mayB n1 l1 = true) (m2 : mayB n2 l2 = true) (h : l2.length ≠ 0) : ratMayB n1 l1 n2 l2 = (!n2 && decide (Nat.gcd (val l1) (val l2) = 1)) := by
  have h2 : val l2 ≠ 0 := fun h3 => h (by rw [val_eq_zero (may_canon m2) h3]; rfl)
  unfold ratMayB
  rw [m1, m2, Bool.true_and, Bool.true_and, sgn_abs, sgn_abs]
  have e : ((((Nat.gcd (val l1) (val l2) : Nat) : Int) = 1)) = (Nat.gcd (val l1) (val l2) = 1) := by
    apply propext
    omega
  cases n2
  · have hc : cmpI (sgn false (val l2)) 0 = 1 := cmpI_gt (by simp [sgn]; omega)
    rw [hc]
    simp [e]
  · have hc : cmpI (sgn true (val l2)) 0 = -1 := cmpI_lt (by simp [sgn]; omega)
    rw [hc]
    simp
theorem rm_no1 {n1 : Bool} {l1 : List Nat} {n2 : Bool} {l2 : List Nat} (m1 : mayB n1 l1 = false) : ratMayB n1 l1 n2 l2 = false := by unfold ratMayB; rw [m1]; rfl
theorem rm_no2 {n1 : Bool} {l1 : List Nat} {n2 : Bool} {l2 : List Nat} (m2 : mayB n2 l2 = false) : ratMayB n1 l1 n2 l2 = false := by unfold ratMayB; rw [m2]; simp
/-- A number that is told, opened. -/
theorem is_open {w : World} {lo n : Nat} {ng : Bool} {ag : Option Addr} {kg cg : Nat} {g : Nat} (h : Is w lo (.agg #[.bool ng, .slice ag kg cg]) n (g : Int)) : ∃ l, kg = l.length ∧ SlAt w ag cg l ∧ canon l ∧ val l = g := by
  obtain ⟨neg, ao, cap, l, e, hs, _, _, hm, hz⟩ := h
  simp only [Value.agg.injEq, Array.mk.injEq, List.cons.injEq, Value.bool.injEq, Value.slice.injEq, and_true] at e
  obtain ⟨rfl, rfl, rfl, rfl⟩ := e
  refine ⟨l, rfl, hs, may_canon hm, ?_⟩
  have := sgn_abs ng (val l)
  rw [← hz] at this
  simpa using this.symm

set_option maxHeartbeats 3200000 in
theorem rmayRat_any (w : World) (n1 n2 : Bool) (a1 a2 : Option Addr) (c1 c2 : Nat) (l1 l2 : List Nat) (h1 : SlAt w a1 c1 l1) (h2 : SlAt w a2 c2 l2) (k1 : l1.length ≤ 100000) (k2 : l2.length ≤ 100000) :
    Calls Try.prog 39 #[.agg #[.bool n1, .slice a1 l1.length c1, .bool n2, .slice a2 l2.length c2]] w fun e w' => e = .returned (.bool (ratMayB n1 l1 n2 l2)) ∧ Below w.heap.size w w' := by
  have HX : Hid (Arg w (.agg #[.bool n1, .slice a1 l1.length c1]) l1.length (mean n1 l1)) := hid (arg_mk h1)
  have HY : Hid (Arg w (.agg #[.bool n2, .slice a2 l2.length c2]) l2.length (mean n2 l2)) := hid (arg_mk h2)
  have HS1 := hid h1
  have HS2 := hid h2
  have HN : Hid (l2.length = 0 → ratMayB n1 l1 false l2 = (decide (l1.length = 0) && !n1)) := hid (fun h => by rw [List.eq_nil_of_length_eq_zero h]; exact rm_nil h1.1)
  have HM : Hid (mayB n1 l1 = true → mayB n2 l2 = true → l2.length ≠ 0 → ratMayB n1 l1 n2 l2 = (!n2 && decide (Nat.gcd (mean n1 l1).natAbs (mean n2 l2).natAbs = 1))) := hid (fun m1 m2 h => by rw [rm_may m1 m2 h, mean_may m1, mean_may m2, sgn_abs, sgn_abs])
  clear h1 h2
  obtain ⟨L1, hL1⟩ : ∃ L, L = l1.length := ⟨_, rfl⟩
  obtain ⟨L2, hL2⟩ : ∃ L, L = l2.length := ⟨_, rfl⟩
  have HMA1 : Hid (∀ W, Below w.heap.size w W → Calls Try.prog 88 #[.agg #[.bool n1, .slice a1 L1 c1]] W fun e w' => e = .returned (.bool (mayB n1 l1)) ∧ Below W.heap.size W w') := hid (fun W hW => by rw [hL1]; exact rmay_any W n1 a1 c1 l1 (HS1.out.below hW))
  have HMA2 : Hid (∀ W, Below w.heap.size w W → Calls Try.prog 88 #[.agg #[.bool n2, .slice a2 L2 c2]] W fun e w' => e = .returned (.bool (mayB n2 l2)) ∧ Below W.heap.size W w') := hid (fun W hW => by rw [hL2]; exact rmay_any W n2 a2 c2 l2 (HS2.out.below hW))
  rw [← hL1] at HX k1 ⊢
  rw [← hL2] at HY k2 ⊢
  rw [← hL1, ← hL2] at HN
  rw [← hL2] at HM
  have HLL := hid hL2
  clear HS1 HS2 hL1 hL2
  have HG : Hid (∀ W, Below w.heap.size w W → Calls Try.prog 25 #[.agg #[.bool n1, .slice a1 L1 c1], .agg #[.bool n2, .slice a2 L2 c2]] W (Told W.heap.size (L1 + L2) ((Nat.gcd (mean n1 l1).natAbs (mean n2 l2).natAbs : Nat) : Int) W)) := hid (fun W hW => rgcd_num W _ _ L1 L2 _ _ (HX.out.below hW) (HY.out.below hW) (by omega) (by omega))
  clear HX HY
  obtain ⟨g, hg⟩ : ∃ g, g = Nat.gcd (mean n1 l1).natAbs (mean n2 l2).natAbs := ⟨_, rfl⟩
  have HMM : Hid (mayB n1 l1 = true → mayB n2 l2 = true → L2 ≠ 0 → ratMayB n1 l1 n2 l2 = (!n2 && decide (g = 1))) := hid (fun a b c => by rw [hg]; exact HM.out a b c)
  rw [← hg] at HG
  clear HM hg
  have HM := HMM
  clear HMM
  go_enter Try.func39, Try.ntmps39
  have hW0 : Below w.heap.size w (w.alloc (.cells #[.bool n1, .slice a1 L1 c1, .bool n2, .slice a2 L2 c2] 43)) := (by repeat (first | exact Below.refl _ _ | refine Below.alloc ?_ ?_ _ | refine Below.setCell ?_ ?_ _ | refine Below.drew ?_ | refine below_drewN ?_ _ | (· simp) | omega | (· simp; omega) | exact Below.size (by assumption) | assumption | refine below_call ?_ (by assumption) ?_))
  by_cases hz : L2 = 0 ∧ n2 = false
  · obtain ⟨rfl, rfl⟩ := hz
    have HR := hid (HN.out rfl)
    clear HN HM HG HMA1 HMA2
    by_cases h0 : L1 = 0
    · subst h0
      cases n1
      · go_wp2
        go_ret
        exact ⟨ret_bool (by rw [HR.out]; rfl), hW0⟩
      · go_wp2
        go_ret
        exact ⟨ret_bool (by rw [HR.out]; rfl), hW0⟩
    · have hb0 : ((L1 : Int) == 0) = false := by simp; omega
      have HR2 : Hid (ratMayB n1 l1 false l2 = false) := hid (by rw [HR.out, decide_eq_false h0]; rfl)
      clear HR
      go_wp2
      go_ret
      exact ⟨ret_bool HR2.out.symm, hW0⟩
  · by_cases hn0 : L2 = 0
    · have hnt : n2 = true := by
        cases n2
        · exact absurd ⟨hn0, rfl⟩ hz
        · rfl
      subst hnt
      have HL0 : Hid (l2.length = 0) := hid (by rw [← HLL.out]; exact hn0)
      subst hn0
      clear hz
      go_wp2_with fail
      refine (HG.out _ hW0).mono ?_
      rintro e w1 ⟨ng, ag, kg, cg, rfl, hI, hb1⟩
      obtain ⟨lg, hkg, hsg, hcg, hvg⟩ := is_open hI
      have hbA := (Box4.new w (.bool n1) (.slice a1 L1 c1) (.bool true) (.slice a2 0 c2) w.heap.size rfl).keep hb1
      have hW1 := below_call hW0 hb1 hW0.size
      have bA := hbA.alloc (.cells #[.bool ng, .slice ag kg cg] 24)
      have bG : Box (w1.alloc (.cells #[.bool ng, .slice ag kg cg] 24)) w1.heap.size (.bool ng) (.slice ag kg cg) := Box.new _ _ _ _ rfl
      have hst : Below w1.heap.size w1 (w1.alloc (.cells #[.bool ng, .slice ag kg cg] 24)) := (Below.refl _ _).alloc (Nat.le_refl _) _
      have hW2 := below_call hW1 hst hW1.size
      have hsg2 := hid (hsg.below hst)
      have HKG := hid hkg
      have HCG := hid hcg
      have HVG := hid hvg
      have hkgm : kg ≤ 9223372036854775807 := by have a := hsg.2.1; have b := hsg.2.2.1; unfold maxLen at b; omega
      obtain ⟨x0, x1, x2, x3⟩ := hbA.c
      have lA := hbA.lt
      clear hI hb1 hsg hkg hcg hvg hbA hW0 hW1 hst
      go_wp2_with fail
      clear x0 x1 x2 x3 lA
      generalize w1.alloc (.cells #[.bool ng, .slice ag kg cg] 24) = W2 at *
      refine (HMA1.out _ hW2).mono ?_
      rintro e w3 ⟨rfl, hb3⟩
      have hW3 := below_call hW2 hb3 hW2.size
      have bA3 := bA.keep hb3
      have bG3 := bG.keep hb3
      have hsg3 := hid (hsg2.out.below hb3)
      clear hb3 bA bG hsg2 hW2
      cases m1 : mayB n1 l1
      · have HR : Hid (ratMayB n1 l1 true l2 = false) := hid (rm_no1 m1)
        clear m1
        go_wp2
        go_ret
        exact ⟨ret_bool HR.out.symm, hW3⟩
      · have HM1 := hid m1
        clear m1
        obtain ⟨x0, x1, x2, x3⟩ := bA3.c
        go_wp2_with fail
        clear x0 x1 x2 x3
        refine (HMA2.out _ hW3).mono ?_
        rintro e w4 ⟨rfl, hb4⟩
        have hW4 := below_call hW3 hb4 hW3.size
        have bA4 := bA3.keep hb4
        have bG4 := bG3.keep hb4
        have hsg4 := hid (hsg3.out.below hb4)
        clear hb4 bA3 bG3 hsg3 hW3
        cases m2 : mayB true l2
        · have HR : Hid (ratMayB n1 l1 true l2 = false) := hid (rm_no2 m2)
          clear m2
          go_wp2
          go_ret
          exact ⟨ret_bool HR.out.symm, hW4⟩
        · have HM2 := hid m2
          clear m2
          obtain ⟨x0, x1, x2, x3⟩ := bA4.c
          have g0 := bG4.c0
          have g1 := bG4.c1
          have lG := bG4.lt
          have lA4 := bA4.lt
          exact absurd HM2.out (by have : l2 = [] := List.eq_nil_of_length_eq_zero HL0.out; rw [this]; simp [mayB])
    · have hnb : ((L2 : Int) == 0) = false := by simp; omega
      clear hz
      go_wp2_with fail
      refine (HG.out _ hW0).mono ?_
      rintro e w1 ⟨ng, ag, kg, cg, rfl, hI, hb1⟩
      obtain ⟨lg, hkg, hsg, hcg, hvg⟩ := is_open hI
      have hbA := (Box4.new w (.bool n1) (.slice a1 L1 c1) (.bool n2) (.slice a2 L2 c2) w.heap.size rfl).keep hb1
      have hW1 := below_call hW0 hb1 hW0.size
      have bA := hbA.alloc (.cells #[.bool ng, .slice ag kg cg] 24)
      have bG : Box (w1.alloc (.cells #[.bool ng, .slice ag kg cg] 24)) w1.heap.size (.bool ng) (.slice ag kg cg) := Box.new _ _ _ _ rfl
      have hst : Below w1.heap.size w1 (w1.alloc (.cells #[.bool ng, .slice ag kg cg] 24)) := (Below.refl _ _).alloc (Nat.le_refl _) _
      have hW2 := below_call hW1 hst hW1.size
      have hsg2 := hid (hsg.below hst)
      have HKG := hid hkg
      have HCG := hid hcg
      have HVG := hid hvg
      have hkgm : kg ≤ 9223372036854775807 := by have a := hsg.2.1; have b := hsg.2.2.1; unfold maxLen at b; omega
      obtain ⟨x0, x1, x2, x3⟩ := hbA.c
      have lA := hbA.lt
      clear hI hb1 hsg hkg hcg hvg hbA hW0 hW1 hst
      go_wp2_with fail
      clear x0 x1 x2 x3 lA
      generalize w1.alloc (.cells #[.bool ng, .slice ag kg cg] 24) = W2 at *
      refine (HMA1.out _ hW2).mono ?_
      rintro e w3 ⟨rfl, hb3⟩
      have hW3 := below_call hW2 hb3 hW2.size
      have bA3 := bA.keep hb3
      have bG3 := bG.keep hb3
      have hsg3 := hid (hsg2.out.below hb3)
      clear hb3 bA bG hsg2 hW2
      cases m1 : mayB n1 l1
      · have HR : Hid (ratMayB n1 l1 n2 l2 = false) := hid (rm_no1 m1)
        clear m1
        go_wp2
        go_ret
        exact ⟨ret_bool HR.out.symm, hW3⟩
      · have HM1 := hid m1
        clear m1
        obtain ⟨x0, x1, x2, x3⟩ := bA3.c
        go_wp2_with fail
        clear x0 x1 x2 x3
        refine (HMA2.out _ hW3).mono ?_
        rintro e w4 ⟨rfl, hb4⟩
        have hW4 := below_call hW3 hb4 hW3.size
        have bA4 := bA3.keep hb4
        have bG4 := bG3.keep hb4
        have hsg4 := hid (hsg3.out.below hb4)
        clear hb4 bA3 bG3 hsg3 hW3
        cases m2 : mayB n2 l2
        · have HR : Hid (ratMayB n1 l1 n2 l2 = false) := hid (rm_no2 m2)
          clear m2
          go_wp2
          go_ret
          exact ⟨ret_bool HR.out.symm, hW4⟩
        · have HM2 := hid m2
          clear m2
          obtain ⟨x0, x1, x2, x3⟩ := bA4.c
          have g0 := bG4.c0
          have g1 := bG4.c1
          have lG := bG4.lt
          have lA4 := bA4.lt
          cases n2
          · have HR : Hid (ratMayB n1 l1 false l2 = decide (g = 1)) := hid (by rw [HM.out HM1.out HM2.out (by simpa using hn0)]; rfl)
            clear HM
            by_cases hk1 : kg = 1
            · subst hk1
              obtain ⟨z, hz⟩ : ∃ z, lg = [z] := by
                have h := HKG.out
                match lg, h with
                | [z], _ => exact ⟨z, rfl⟩
              subst hz
              rcases hsg4.out.2.2.2 with ⟨h, _⟩ | ⟨b, off, rfl, hlt, hc⟩
              · simp at h
              have hc0 : w4.cell? ⟨b, off, none⟩ = some (.int .u32 (z : Int)) := by simpa using hc 0 (by simp)
              have HGZ : Hid (g = z) := hid (by rw [← HVG.out]; simp [val])
              clear hc HKG HCG HVG hsg4
              by_cases hz1 : z = 1
              · subst hz1
                go_wp2
                go_ret
                exact ⟨ret_bool (by rw [HR.out, HGZ.out]; rfl), hW4⟩
              · have hzb : ((z : Int) == 1) = false := by simp; omega
                have HR2 : Hid (ratMayB n1 l1 false l2 = false) := hid (by rw [HR.out, HGZ.out]; exact decide_eq_false hz1)
                clear HR HGZ
                go_wp2
                go_ret
                exact ⟨ret_bool HR2.out.symm, hW4⟩
            · have hkb : ((kg : Int) == 1) = false := by simp; omega
              have HR2 : Hid (ratMayB n1 l1 false l2 = false) := hid (by
                rw [HR.out]
                refine decide_eq_false (fun h => hk1 ?_)
                rw [HKG.out, canon_inj hsg4.out.1 (b := [1]) (by intro q hq; simp at hq; omega) HCG.out (by simp [canon]) (by rw [HVG.out, h]; simp [val])]
                rfl)
              clear HR
              go_wp2
              go_ret
              exact ⟨ret_bool HR2.out.symm, hW4⟩
          · have HR : Hid (ratMayB n1 l1 true l2 = false) := hid (by rw [HM.out HM1.out HM2.out (by simpa using hn0)]; rfl)
            clear HM
            go_wp2
            go_ret
            exact ⟨ret_bool HR.out.symm, hW4⟩

end Go.Proofs.Ytiicjfacekldnaa
