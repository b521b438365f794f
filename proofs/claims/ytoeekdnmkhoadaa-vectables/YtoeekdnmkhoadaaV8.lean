/-
  Walks: the document's Dot.
-/
import Derived.Test.YtoeekdnmkhoadaaVA
namespace Go.Proofs.Ytoeekdnmkhoadaa
open Go.RowKit Lm
set_option linter.unusedSimpArgs false
set_option linter.unusedVariables false
set_option maxRecDepth 100000

@[go_sem] theorem field_P (w : World) (a b c d : Value) : Sem.run Try.prog (Instr.field 37 (.agg #[a, b, c, d]) 0) w = .ok (.agg #[a, b]) w := by
  simp [Instr.field, go_sem, part, asAgg, isAgg]

theorem ris_zero {W : World} {n1 n2 : Bool} {a1 a2 : Option Addr} {k1 c1 k2 c2 n : Nat} {r : Rat} (h : RIs W 0 (.agg #[.bool n1, .slice a1 k1 c1, .bool n2, .slice a2 k2 c2]) n r) : (k1 = 0 ↔ r = 0) ∧ k1 ≤ 9223372036854775807 := by
  obtain ⟨n1', a1', k1', c1', n2', a2', k2', c2', e, i1, i2⟩ := h
  simp only [Value.agg.injEq, Array.mk.injEq, List.cons.injEq, Value.bool.injEq, Value.slice.injEq, and_true] at e
  obtain ⟨rfl, ⟨rfl, rfl, rfl⟩, rfl, rfl, rfl, rfl⟩ := e
  obtain ⟨h1, -, -, h2⟩ := is_sign i1
  exact ⟨h1.trans Rat.num_eq_zero, h2⟩

/-- What stands at the head of a round. -/
def DotRel (w : World) (gs n k : Nat) (A B : List Rat) (iv : Value) (wr : World) : Prop :=
  ∃ (i : Nat) (n1 : Bool) (a1 : Option Addr) (k1 c1 : Nat) (n2 : Bool) (a2 : Option Addr) (k2 c2 : Nat), i ≤ k ∧ iv = .int .i64 i ∧ Box4 wr gs (.bool n1) (.slice a1 k1 c1) (.bool n2) (.slice a2 k2 c2) ∧ RIs wr 0 (.agg #[.bool n1, .slice a1 k1 c1, .bool n2, .slice a2 k2 c2]) (n * i + 1) (dotR (A.take i) (B.take i)) ∧ Box4 wr w.heap.size (.bool false) (.slice none 0 0) (.bool false) (.slice none 0 0) ∧ Below w.heap.size w wr

set_option maxHeartbeats 6400000 in
theorem rdot_any (w : World) (ao bo : Option Addr) (k ca cb n m : Nat) (A B : List Rat) (hka : k = A.length) (hkb : k = B.length) (hA : QAt w ao ca n A) (hB : QAt w bo cb m B) (hn : 1 ≤ n) (hm : 1 ≤ m) (hk : (n + m) * k ≤ 4000) :
    Calls Try.prog 30 #[.slice ao k ca, .slice bo k cb] w (QSay ((n + m) * k + 1) (dotR A B) w) := by
  have hk64 : k ≤ 9223372036854775807 := by have := Nat.mul_le_mul_right k (show 1 ≤ n + m by omega); omega
  have hW0 : Below w.heap.size w (w.alloc (.cells #[.bool false, .slice none 0 0, .bool false, .slice none 0 0] 37)) := (by repeat (first | exact Below.refl _ _ | refine Below.alloc ?_ ?_ _ | refine Below.setCell ?_ ?_ _ | refine Below.drew ?_ | refine below_drewN ?_ _ | (· simp) | omega | (· simp; omega) | exact Below.size (by assumption) | assumption | refine below_call ?_ (by assumption) ?_))
  have bR0 : Box4 (w.alloc (.cells #[.bool false, .slice none 0 0, .bool false, .slice none 0 0] 37)) w.heap.size (.bool false) (.slice none 0 0) (.bool false) (.slice none 0 0) := Box4.new _ _ _ _ _ _ rfl
  have HSZ : Hid (∀ i, i ≤ k → Sz ((n + m) * i + 1) (dotR (A.take i) (B.take i))) := hid (fun i hi => by
    have h1 : (A.take i).length = i := by rw [List.length_take]; omega
    have h2 : (B.take i).length = i := by rw [List.length_take]; omega
    have := dotR_sz (A.take i) (B.take i) (h1.trans h2.symm) (by have := Nat.mul_le_mul_right k (show 1 ≤ n + m by omega); omega) (fun r hr => hA.sz hn r (List.mem_of_mem_take hr)) (fun r hr => hB.sz hm r (List.mem_of_mem_take hr))
    rwa [h1] at this)
  have HA := hid hA
  have HB := hid hB
  have HKA := hid hka
  have HKB := hid hkb
  have HK := hid hk
  clear hA hB hka hkb hk
  go_enter Try.func30, Try.ntmps30
  go_wp2_with fail
  generalize w.alloc (.cells #[.bool false, .slice none 0 0, .bool false, .slice none 0 0] 37) = W0 at *
  refine (nought_any _).mono ?_
  rintro e w1 ⟨ns, as', ks, cs, nt, at', kt, ct, rfl, hI, hb⟩
  have hW1 := (below_call hW0 hb hW0.size).alloc (below_call hW0 hb hW0.size).size (.cells #[.bool ns, .slice as' ks cs, .bool nt, .slice at' kt ct] 37)
  have bR := (bR0.keep hb).alloc (.cells #[.bool ns, .slice as' ks cs, .bool nt, .slice at' kt ct] 37)
  have hS0 : RIs (w1.alloc (.cells #[.bool ns, .slice as' ks cs, .bool nt, .slice at' kt ct] 37)) 0 (.agg #[.bool ns, .slice as' ks cs, .bool nt, .slice at' kt ct]) 1 (dotR (A.take 0) (B.take 0)) := by
    have h0 : dotR (A.take 0) (B.take 0) = 0 := by simp [dotR_nil]
    rw [h0]
    exact (hI.below ((Below.refl _ _).alloc (Nat.le_refl _) _)).tight (by decide) (by decide)
  have hgs : w.heap.size < w1.heap.size := (bR0.keep hb).lt
  clear hI hb hW0 bR0
  go_wp2
  go_loopw [7] (fun iv wr => DotRel w w1.heap.size (n + m) k A B iv wr) (fun iv wr => k - (intOf iv).toNat)
  case atStart => exact ⟨0, ns, as', ks, cs, nt, at', kt, ct, Nat.zero_le _, rfl, Box4.new _ _ _ _ _ _ rfl, hS0, bR, hW1⟩
  case round =>
    clear hS0 bR hW1
    obtain ⟨i, n5, a5, k5, c5, n6, a6, k6, c6, hik, rfl, bS, hS, bR, HBW⟩ := hrel
    by_cases hlt : i < k
    · have hi1 : i < A.length := by rw [← HKA.out]; exact hlt
      have hi2 : i < B.length := by rw [← HKB.out]; exact hlt
      obtain ⟨b1, o1, rfl, l1⟩ := HA.out.spot (by omega)
      obtain ⟨b2, o2, rfl, l2⟩ := HB.out.spot (by omega)
      obtain ⟨n1, a1, k1, c1, n2, a2, k2, c2, p1, p2, p3, p4, pA⟩ := (HA.out.at i hi1).1
      obtain ⟨n3, a3, k3, c3, n4, a4, k4, c4, q1, q2, q3, q4, pB⟩ := (HB.out.at i hi2).1
      have hC1 : At4 w b1 (o1 + i * 4) (.bool n1) (.slice a1 k1 c1) (.bool n2) (.slice a2 k2 c2) := ⟨p1, p2, p3, p4⟩
      have hC2 : At4 w b2 (o2 + i * 4) (.bool n3) (.slice a3 k3 c3) (.bool n4) (.slice a4 k4 c4) := ⟨q1, q2, q3, q4⟩
      have HX := hid pA
      have HY := hid pB
      have HT : Hid (dotR (A.take (i + 1)) (B.take (i + 1)) = dotR (A.take i) (B.take i) + A[i] * B[i]) := hid (dotR_take A B i hi1 (HKA.out.symm.trans HKB.out))
      have HZ := hid (HSZ.out (i + 1) hlt)
      have hb0 : (n + m) * i + 1 ≤ 5000 ∧ n ≤ 5000 ∧ m ≤ 5000 ∧ 2 * n + 2 * m + 8 ≤ 9000 := by
        have h1 := HK.out
        have h2 := Nat.mul_le_mul_left (n + m) (show i ≤ k by omega)
        have h3 := Nat.mul_le_mul_left (n + m) (show 1 ≤ k by omega)
        omega
      obtain ⟨hb1, hb2, hb3, hb4⟩ := hb0
      have HM : Hid (Sz (n + m + 1) (A[i] * B[i])) := hid (by
        have := (Bd.mul (rarg_bound pA hn) (rarg_bound pB hm)).size (by omega)
        rwa [Nat.mul_one] at this)
      have hnm : n + m + 1 ≤ 5000 := by
        have h1 := HK.out
        have h3 := Nat.mul_le_mul_left (n + m) (show 1 ≤ k by omega)
        omega
      clear p1 p2 p3 p4 q1 q2 q3 q4 pA pB
      generalize A[i] = x at *
      generalize B[i] = y at *
      generalize hD : dotR (A.take i) (B.take i) = D at *
      clear hD
      generalize hD' : dotR (A.take (i + 1)) (B.take (i + 1)) = D' at *
      have HD := hid hD'
      clear hD'
      obtain ⟨p1, p2, p3, p4⟩ := hC1.below l1 HBW
      have hl1 : b1 < wr.heap.size := Nat.lt_of_lt_of_le l1 HBW.size
      go_wp2_with fail
      refine (normRat_any _ _ n x (HX.out.below HBW) (by omega)).mono ?_
      rintro e w2 ⟨m1, d1, j1, e1, m2, d2, j2, e2, rfl, hN1, hb⟩
      obtain ⟨hz1, hj1⟩ := ris_zero hN1
      clear hN1
      have HBn := below_call HBW hb HBW.size; have bSn := bS.keep hb; have bRn := bR.keep hb; have hSn := hS.below hb; clear HBW bS bR hS hb; have HBW := HBn; have bS := bSn; have bR := bRn; have hS := hSn; clear HBn bSn bRn hSn; (try clear z0 z1 z2 z3 zf zl); obtain ⟨z0, z1, z2, z3⟩ := bS.c; have zf := bS.f; have zl := bS.lt
      clear p1 p2 p3 p4
      by_cases hx0 : x = 0
      · obtain rfl := hz1.2 hx0
        have HE : Hid (D' = D) := hid (by rw [HT.out, hx0, Rat.zero_mul, Rat.add_zero])
        clear hx0 hz1
        go_wp2
        go_roundw
        case rel => exact ⟨i + 1, n5, a5, k5, c5, n6, a6, k6, c6, by omega, by go_num, bS, by rw [HD.out, HE.out]; have hq := HZ.out; rw [HE.out] at hq; exact hS.tight hq.1 hq.2, bR, HBW⟩
        case measure => simp [intOf]; omega
      · have hj0 : (0 : Int) < (j1 : Int) := by have : ¬ j1 = 0 := fun h => hx0 (hz1.1 h); omega
        clear hz1
        obtain ⟨q1, q2, q3, q4⟩ := hC2.below l2 HBW
        go_wp2_with fail
        refine (normRat_any _ _ m y (HY.out.below HBW) (by omega)).mono ?_
        rintro e w3 ⟨m3, d3, j3, e3, m4, d4, j4, e4, rfl, hN2, hb⟩
        obtain ⟨hz2, hj2⟩ := ris_zero hN2
        clear hN2
        have HBn := below_call HBW hb HBW.size; have bSn := bS.keep hb; have bRn := bR.keep hb; have hSn := hS.below hb; clear HBW bS bR hS hb; have HBW := HBn; have bS := bSn; have bR := bRn; have hS := hSn; clear HBn bSn bRn hSn; (try clear z0 z1 z2 z3 zf zl); obtain ⟨z0, z1, z2, z3⟩ := bS.c; have zf := bS.f; have zl := bS.lt
        clear q1 q2 q3 q4
        by_cases hy0 : y = 0
        · obtain rfl := hz2.2 hy0
          have HE : Hid (D' = D) := hid (by rw [HT.out, hy0, Rat.mul_zero, Rat.add_zero])
          clear hy0 hz2 hx0
          go_wp2
          go_roundw
          case rel => exact ⟨i + 1, n5, a5, k5, c5, n6, a6, k6, c6, by omega, by go_num, bS, by rw [HD.out, HE.out]; have hq := HZ.out; rw [HE.out] at hq; exact hS.tight hq.1 hq.2, bR, HBW⟩
          case measure => simp [intOf]; omega
        · have hj4 : (0 : Int) < (j3 : Int) := by have : ¬ j3 = 0 := fun h => hy0 (hz2.1 h); omega
          clear hz2 hx0 hy0
          go_wp2
          replace HBW := HBW.drew
          replace bS : Box4 w3.drew _ _ _ _ _ := bS
          replace bR : Box4 w3.drew _ _ _ _ _ := bR
          replace hS : RIs w3.drew 0 _ _ _ := hS.below (Below.refl _ _).drew
          obtain ⟨p1, p2, p3, p4⟩ := hC1.below l1 HBW
          obtain ⟨q1, q2, q3, q4⟩ := hC2.below l2 HBW
          clear z0 z1 z2 z3 zf zl
          obtain ⟨z0, z1, z2, z3⟩ := bS.c
          have zf := bS.f
          have zl := bS.lt
          go_region_with (first
            | (go_at_call 41; go_must (refine (mulRat_any _ _ _ n m x y (HX.out.below HBW) (HY.out.below HBW) hb2 hb3).mono ?_); rintro e w4 ⟨m5, d5, j5, e5, m6, d6, j6, e6, rfl, hM, hb⟩; have HBn := below_call HBW hb HBW.size; have bSn := bS.keep hb; have bRn := bR.keep hb; have hSn := hS.below hb; clear HBW bS bR hS hb; have HBW := HBn; have bS := bSn; have bR := bRn; have hS := hSn; clear HBn bSn bRn hSn; (try clear z0 z1 z2 z3 zf zl); obtain ⟨z0, z1, z2, z3⟩ := bS.c; have zf := bS.f; have zl := bS.lt; (try clear p1 p2 p3 p4 q1 q2 q3 q4); obtain ⟨p1, p2, p3, p4⟩ := hC1.below l1 HBW; obtain ⟨q1, q2, q3, q4⟩ := hC2.below l2 HBW)
            | (go_at_call 40; go_must (refine (addRat_any _ _ _ ((n + m) * i + 1) (n + m + 1) D (x * y) hS.arg (hM.tight HM.out.1 HM.out.2).arg hb1 hnm).mono ?_); rintro e w5 ⟨m7, d7, j7, e7, m8, d8, j8, e8, rfl, hAd, hb⟩; have HBn := below_call HBW hb HBW.size; have bSn := bS.keep hb; have bRn := bR.keep hb; have hSn := hS.below hb; clear HBW bS bR hS hb; have HBW := HBn; have bS := bSn; have bR := bRn; have hS := hSn; clear HBn bSn bRn hSn; (try clear z0 z1 z2 z3 zf zl); obtain ⟨z0, z1, z2, z3⟩ := bS.c; have zf := bS.f; have zl := bS.lt; (try clear p1 p2 p3 p4 q1 q2 q3 q4); obtain ⟨p1, p2, p3, p4⟩ := hC1.below l1 HBW; obtain ⟨q1, q2, q3, q4⟩ := hC2.below l2 HBW))
          all_goals (
            have HS := hid ((hAd.off4 bS (grow4 w5 w1.heap.size (.bool m7) (.slice d7 j7 e7) (.bool m8) (.slice d8 j8 e8))))
            have HF := hid (below_fill4 HBW (Nat.le_of_lt hgs) (.bool m7) (.slice d7 j7 e7) (.bool m8) (.slice d8 j8 e8))
            have HO := hid (bS.filled (.bool m7) (.slice d7 j7 e7) (.bool m8) (.slice d8 j8 e8))
            have HP := hid (bR.beside (Nat.ne_of_lt hgs) (.bool m7) (.slice d7 j7 e7) (.bool m8) (.slice d8 j8 e8))
            clear hAd hM hS bS bR HBW
            go_wp2
            go_roundw
            case rel => exact ⟨i + 1, m7, d7, j7, e7, m8, d8, j8, e8, by omega, by go_num, HO.out, by rw [HD.out]; have hq := HZ.out; rw [HT.out] at hq ⊢; exact HS.out.tight hq.1 hq.2, HP.out, HF.out⟩
            case measure => simp [intOf]; omega)
    · have hke : i = k := by omega
      subst hke
      have HE : Hid (dotR (A.take i) (B.take i) = dotR A B) := hid (by rw [List.take_of_length_le (by rw [← HKA.out]; omega), List.take_of_length_le (by rw [← HKB.out]; omega)])
      rw [HE.out] at hS
      have HS := hid (hS.off4 bR (grow4 wr w.heap.size (.bool n5) (.slice a5 k5 c5) (.bool n6) (.slice a6 k6 c6)))
      have HF := hid (below_fill4 HBW (Nat.le_refl _) (.bool n5) (.slice a5 k5 c5) (.bool n6) (.slice a6 k6 c6))
      obtain ⟨s0, s1, s2, s3⟩ := bS.c
      have sl := bS.lt
      obtain ⟨r0, r1, r2, r3⟩ := bR.c
      have rf := bR.f
      have rl := bR.lt
      clear hS bS bR HBW
      go_wp2
      refine bodyPost_ret (v := .tuple #[.agg #[.bool n5, .slice a5 k5 c5, .bool n6, .slice a6 k6 c6], .int .i64 0]) ?_ rfl ⟨n5, a5, k5, c5, n6, a6, k6, c6, rfl, HS.out, HF.out⟩
      simp [results, Try.results30, go_sem, r0, r1, r2, r3]

end Go.Proofs.Ytoeekdnmkhoadaa
