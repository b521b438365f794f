/-
  Walks: the document's Dot.
  Rows of quotients that grow: append.
  Walks: the document's Plus; whether two rows are one.
  Walks: whether two rows are one; the refusals; what is known from call to call, of the document's.
-/
import Derived.Test.YtmnlggmdomcajaaGreatVA

namespace Go.Proofs.YtmnlggmdomcajaaGreat
open Go.RowKit Lm
set_option linter.unusedSimpArgs false
set_option linter.unusedVariables false
set_option maxRecDepth 100000

@[go_sem] theorem field_P (w : World) (a b c d : Value) : Sem.run Tryz.prog (Instr.field 26 (.agg #[a, b, c, d]) 0) w = .ok (.agg #[a, b]) w := by
  simp [Instr.field, go_sem, part, asAgg, isAgg]

theorem ris_zero {W : World} {n1 n2 : Bool} {a1 a2 : Option Addr} {k1 c1 k2 c2 n : Nat} {r : Rat} (h : RIs W 0 (.agg #[.bool n1, .slice a1 k1 c1, .bool n2, .slice a2 k2 c2]) n r) : (k1 = 0 ↔ r = 0) ∧ k1 ≤ 9223372036854775807 := by
  obtain ⟨n1', a1', k1', c1', n2', a2', k2', c2', e, i1, i2⟩ := h
  simp only [Value.agg.injEq, Array.mk.injEq, List.cons.injEq, Value.bool.injEq, Value.slice.injEq, and_true] at e
  obtain ⟨rfl, ⟨rfl, rfl, rfl⟩, rfl, rfl, rfl, rfl⟩ := e
  obtain ⟨h1, -, -, h2⟩ := is_sign i1
  exact ⟨h1.trans Rat.num_eq_zero, h2⟩

/-- What stands at the head of a round. -/
def DotRel (w : World) (gs n k : Nat) (A B : List Rat) (iv : Value) (wr : World) : Prop :=
  ∃ (i : Nat) (n1 : Bool) (a1 : Option Addr) (k1 c1 : Nat) (n2 : Bool) (a2 : Option Addr) (k2 c2 : Nat), i ≤ k ∧ iv = .int .i64 i ∧ Box4 wr gs (.bool n1) (.slice a1 k1 c1) (.bool n2) (.slice a2 k2 c2) ∧ RIs wr 0 (.agg #[.bool n1, .slice a1 k1 c1, .bool n2, .slice a2 k2 c2]) (n * i + 1) (dotR (A.take i) (B.take i)) ∧ Box4 wr w.heap.size (.bool false) (.slice none 0 0) (.bool false) (.slice none 0 0) ∧ Below w.heap.size w wr

set_option maxHeartbeats 6400000 in
theorem rdot_any (w : World) (ao bo : Option Addr) (k ca cb n m : Nat) (A B : List Rat) (hka : k = A.length) (hkb : k = B.length) (hA : QAt w ao ca n A) (hB : QAt w bo cb m B) (hn : 1 ≤ n) (hm : 1 ≤ m) (hk : (n + m) * k ≤ 4000) :
    Calls Tryz.prog 34 #[.slice ao k ca, .slice bo k cb] w (QSay ((n + m) * k + 1) (dotR A B) w) := by
  have hk64 : k ≤ 9223372036854775807 := by have := Nat.mul_le_mul_right k (show 1 ≤ n + m by omega); omega
  have hW0 : Below w.heap.size w (w.alloc (.cells #[.bool false, .slice none 0 0, .bool false, .slice none 0 0] 26)) := (by repeat (first | exact Below.refl _ _ | refine Below.alloc ?_ ?_ _ | refine Below.setCell ?_ ?_ _ | refine Below.drew ?_ | refine below_drewN ?_ _ | (· simp) | omega | (· simp; omega) | exact Below.size (by assumption) | assumption | refine below_call ?_ (by assumption) ?_))
  have bR0 : Box4 (w.alloc (.cells #[.bool false, .slice none 0 0, .bool false, .slice none 0 0] 26)) w.heap.size (.bool false) (.slice none 0 0) (.bool false) (.slice none 0 0) := Box4.new _ _ _ _ _ _ rfl
  have HSZ : Hid (∀ i, i ≤ k → Sz ((n + m) * i + 1) (dotR (A.take i) (B.take i))) := hid (fun i hi => by
    have h1 : (A.take i).length = i := by rw [List.length_take]; omega
    have h2 : (B.take i).length = i := by rw [List.length_take]; omega
    have := dotR_sz (A.take i) (B.take i) (h1.trans h2.symm) (by have := Nat.mul_le_mul_right k (show 1 ≤ n + m by omega); omega) (fun r hr => hA.sz hn r (List.mem_of_mem_take hr)) (fun r hr => hB.sz hm r (List.mem_of_mem_take hr))
    rwa [h1] at this)
  have HA := hid hA
  have HB := hid hB
  have HKA := hid hka
  have HKB := hid hkb
  have HK := hid hk
  clear hA hB hka hkb hk
  go_enter Tryz.func34, Tryz.ntmps34
  go_wp2_with fail
  generalize w.alloc (.cells #[.bool false, .slice none 0 0, .bool false, .slice none 0 0] 26) = W0 at *
  refine (nought_any _).mono ?_
  rintro e w1 ⟨ns, as', ks, cs, nt, at', kt, ct, rfl, hI, hb⟩
  have hW1 := (below_call hW0 hb hW0.size).alloc (below_call hW0 hb hW0.size).size (.cells #[.bool ns, .slice as' ks cs, .bool nt, .slice at' kt ct] 26)
  have bR := (bR0.keep hb).alloc (.cells #[.bool ns, .slice as' ks cs, .bool nt, .slice at' kt ct] 26)
  have hS0 : RIs (w1.alloc (.cells #[.bool ns, .slice as' ks cs, .bool nt, .slice at' kt ct] 26)) 0 (.agg #[.bool ns, .slice as' ks cs, .bool nt, .slice at' kt ct]) 1 (dotR (A.take 0) (B.take 0)) := by
    have h0 : dotR (A.take 0) (B.take 0) = 0 := by simp [dotR_nil]
    rw [h0]
    exact (hI.below ((Below.refl _ _).alloc (Nat.le_refl _) _)).tight (by decide) (by decide)
  have hgs : w.heap.size < w1.heap.size := (bR0.keep hb).lt
  clear hI hb hW0 bR0
  go_wp2
  go_loopw [7] (fun iv wr => DotRel w w1.heap.size (n + m) k A B iv wr) (fun iv wr => k - (intOf iv).toNat)
  case atStart => exact ⟨0, ns, as', ks, cs, nt, at', kt, ct, Nat.zero_le _, rfl, Box4.new _ _ _ _ _ _ rfl, hS0, bR, hW1⟩
  case round =>
    clear hS0 bR hW1
    obtain ⟨i, n5, a5, k5, c5, n6, a6, k6, c6, hik, rfl, bS, hS, bR, HBW⟩ := hrel
    by_cases hlt : i < k
    · have hi1 : i < A.length := by rw [← HKA.out]; exact hlt
      have hi2 : i < B.length := by rw [← HKB.out]; exact hlt
      obtain ⟨b1, o1, rfl, l1⟩ := HA.out.spot (by omega)
      obtain ⟨b2, o2, rfl, l2⟩ := HB.out.spot (by omega)
      obtain ⟨n1, a1, k1, c1, n2, a2, k2, c2, p1, p2, p3, p4, pA⟩ := (HA.out.at i hi1).1
      obtain ⟨n3, a3, k3, c3, n4, a4, k4, c4, q1, q2, q3, q4, pB⟩ := (HB.out.at i hi2).1
      have hC1 : At4 w b1 (o1 + i * 4) (.bool n1) (.slice a1 k1 c1) (.bool n2) (.slice a2 k2 c2) := ⟨p1, p2, p3, p4⟩
      have hC2 : At4 w b2 (o2 + i * 4) (.bool n3) (.slice a3 k3 c3) (.bool n4) (.slice a4 k4 c4) := ⟨q1, q2, q3, q4⟩
      have HX := hid pA
      have HY := hid pB
      have HT : Hid (dotR (A.take (i + 1)) (B.take (i + 1)) = dotR (A.take i) (B.take i) + A[i] * B[i]) := hid (dotR_take A B i hi1 (HKA.out.symm.trans HKB.out))
      have HZ := hid (HSZ.out (i + 1) hlt)
      have hb0 : (n + m) * i + 1 ≤ 5000 ∧ n ≤ 5000 ∧ m ≤ 5000 ∧ 2 * n + 2 * m + 8 ≤ 9000 := by
        have h1 := HK.out
        have h2 := Nat.mul_le_mul_left (n + m) (show i ≤ k by omega)
        have h3 := Nat.mul_le_mul_left (n + m) (show 1 ≤ k by omega)
        omega
      obtain ⟨hb1, hb2, hb3, hb4⟩ := hb0
      have HM : Hid (Sz (n + m + 1) (A[i] * B[i])) := hid (by
        have := (Bd.mul (rarg_bound pA hn) (rarg_bound pB hm)).size (by omega)
        rwa [Nat.mul_one] at this)
      have hnm : n + m + 1 ≤ 5000 := by
        have h1 := HK.out
        have h3 := Nat.mul_le_mul_left (n + m) (show 1 ≤ k by omega)
        omega
      clear p1 p2 p3 p4 q1 q2 q3 q4 pA pB
      generalize A[i] = x at *
      generalize B[i] = y at *
      generalize hD : dotR (A.take i) (B.take i) = D at *
      clear hD
      generalize hD' : dotR (A.take (i + 1)) (B.take (i + 1)) = D' at *
      have HD := hid hD'
      clear hD'
      obtain ⟨p1, p2, p3, p4⟩ := hC1.below l1 HBW
      have hl1 : b1 < wr.heap.size := Nat.lt_of_lt_of_le l1 HBW.size
      go_wp2_with fail
      refine (normRat_any _ _ n x (HX.out.below HBW) (by omega)).mono ?_
      rintro e w2 ⟨m1, d1, j1, e1, m2, d2, j2, e2, rfl, hN1, hb⟩
      obtain ⟨hz1, hj1⟩ := ris_zero hN1
      clear hN1
      have HBn := below_call HBW hb HBW.size; have bSn := bS.keep hb; have bRn := bR.keep hb; have hSn := hS.below hb; clear HBW bS bR hS hb; have HBW := HBn; have bS := bSn; have bR := bRn; have hS := hSn; clear HBn bSn bRn hSn; (try clear z0 z1 z2 z3 zf zl); obtain ⟨z0, z1, z2, z3⟩ := bS.c; have zf := bS.f; have zl := bS.lt
      clear p1 p2 p3 p4
      by_cases hx0 : x = 0
      · obtain rfl := hz1.2 hx0
        have HE : Hid (D' = D) := hid (by rw [HT.out, hx0, Rat.zero_mul, Rat.add_zero])
        clear hx0 hz1
        go_wp2
        go_roundw
        case rel => exact ⟨i + 1, n5, a5, k5, c5, n6, a6, k6, c6, by omega, by go_num, bS, by rw [HD.out, HE.out]; have hq := HZ.out; rw [HE.out] at hq; exact hS.tight hq.1 hq.2, bR, HBW⟩
        case measure => simp [intOf]; omega
      · have hj0 : (0 : Int) < (j1 : Int) := by have : ¬ j1 = 0 := fun h => hx0 (hz1.1 h); omega
        clear hz1
        obtain ⟨q1, q2, q3, q4⟩ := hC2.below l2 HBW
        go_wp2_with fail
        refine (normRat_any _ _ m y (HY.out.below HBW) (by omega)).mono ?_
        rintro e w3 ⟨m3, d3, j3, e3, m4, d4, j4, e4, rfl, hN2, hb⟩
        obtain ⟨hz2, hj2⟩ := ris_zero hN2
        clear hN2
        have HBn := below_call HBW hb HBW.size; have bSn := bS.keep hb; have bRn := bR.keep hb; have hSn := hS.below hb; clear HBW bS bR hS hb; have HBW := HBn; have bS := bSn; have bR := bRn; have hS := hSn; clear HBn bSn bRn hSn; (try clear z0 z1 z2 z3 zf zl); obtain ⟨z0, z1, z2, z3⟩ := bS.c; have zf := bS.f; have zl := bS.lt
        clear q1 q2 q3 q4
        by_cases hy0 : y = 0
        · obtain rfl := hz2.2 hy0
          have HE : Hid (D' = D) := hid (by rw [HT.out, hy0, Rat.mul_zero, Rat.add_zero])
          clear hy0 hz2 hx0
          go_wp2
          go_roundw
          case rel => exact ⟨i + 1, n5, a5, k5, c5, n6, a6, k6, c6, by omega, by go_num, bS, by rw [HD.out, HE.out]; have hq := HZ.out; rw [HE.out] at hq; exact hS.tight hq.1 hq.2, bR, HBW⟩
          case measure => simp [intOf]; omega
        · have hj4 : (0 : Int) < (j3 : Int) := by have : ¬ j3 = 0 := fun h => hy0 (hz2.1 h); omega
          clear hz2 hx0 hy0
          go_wp2
          replace HBW := HBW.drew
          replace bS : Box4 w3.drew _ _ _ _ _ := bS
          replace bR : Box4 w3.drew _ _ _ _ _ := bR
          replace hS : RIs w3.drew 0 _ _ _ := hS.below (Below.refl _ _).drew
          obtain ⟨p1, p2, p3, p4⟩ := hC1.below l1 HBW
          obtain ⟨q1, q2, q3, q4⟩ := hC2.below l2 HBW
          clear z0 z1 z2 z3 zf zl
          obtain ⟨z0, z1, z2, z3⟩ := bS.c
          have zf := bS.f
          have zl := bS.lt
          go_region_with (first
            | (go_at_call 84; go_must (refine (mulRat_any _ _ _ n m x y (HX.out.below HBW) (HY.out.below HBW) hb2 hb3).mono ?_); rintro e w4 ⟨m5, d5, j5, e5, m6, d6, j6, e6, rfl, hM, hb⟩; have HBn := below_call HBW hb HBW.size; have bSn := bS.keep hb; have bRn := bR.keep hb; have hSn := hS.below hb; clear HBW bS bR hS hb; have HBW := HBn; have bS := bSn; have bR := bRn; have hS := hSn; clear HBn bSn bRn hSn; (try clear z0 z1 z2 z3 zf zl); obtain ⟨z0, z1, z2, z3⟩ := bS.c; have zf := bS.f; have zl := bS.lt; (try clear p1 p2 p3 p4 q1 q2 q3 q4); obtain ⟨p1, p2, p3, p4⟩ := hC1.below l1 HBW; obtain ⟨q1, q2, q3, q4⟩ := hC2.below l2 HBW)
            | (go_at_call 37; go_must (refine (addRat_any _ _ _ ((n + m) * i + 1) (n + m + 1) D (x * y) hS.arg (hM.tight HM.out.1 HM.out.2).arg hb1 hnm).mono ?_); rintro e w5 ⟨m7, d7, j7, e7, m8, d8, j8, e8, rfl, hAd, hb⟩; have HBn := below_call HBW hb HBW.size; have bSn := bS.keep hb; have bRn := bR.keep hb; have hSn := hS.below hb; clear HBW bS bR hS hb; have HBW := HBn; have bS := bSn; have bR := bRn; have hS := hSn; clear HBn bSn bRn hSn; (try clear z0 z1 z2 z3 zf zl); obtain ⟨z0, z1, z2, z3⟩ := bS.c; have zf := bS.f; have zl := bS.lt; (try clear p1 p2 p3 p4 q1 q2 q3 q4); obtain ⟨p1, p2, p3, p4⟩ := hC1.below l1 HBW; obtain ⟨q1, q2, q3, q4⟩ := hC2.below l2 HBW))
          all_goals (
            have HS := hid ((hAd.off4 bS (grow4 w5 w1.heap.size (.bool m7) (.slice d7 j7 e7) (.bool m8) (.slice d8 j8 e8))))
            have HF := hid (below_fill4 HBW (Nat.le_of_lt hgs) (.bool m7) (.slice d7 j7 e7) (.bool m8) (.slice d8 j8 e8))
            have HO := hid (bS.filled (.bool m7) (.slice d7 j7 e7) (.bool m8) (.slice d8 j8 e8))
            have HP := hid (bR.beside (Nat.ne_of_lt hgs) (.bool m7) (.slice d7 j7 e7) (.bool m8) (.slice d8 j8 e8))
            clear hAd hM hS bS bR HBW
            go_wp2
            go_roundw
            case rel => exact ⟨i + 1, m7, d7, j7, e7, m8, d8, j8, e8, by omega, by go_num, HO.out, by rw [HD.out]; have hq := HZ.out; rw [HT.out] at hq ⊢; exact HS.out.tight hq.1 hq.2, HP.out, HF.out⟩
            case measure => simp [intOf]; omega)
    · have hke : i = k := by omega
      subst hke
      have HE : Hid (dotR (A.take i) (B.take i) = dotR A B) := hid (by rw [List.take_of_length_le (by rw [← HKA.out]; omega), List.take_of_length_le (by rw [← HKB.out]; omega)])
      rw [HE.out] at hS
      have HS := hid (hS.off4 bR (grow4 wr w.heap.size (.bool n5) (.slice a5 k5 c5) (.bool n6) (.slice a6 k6 c6)))
      have HF := hid (below_fill4 HBW (Nat.le_refl _) (.bool n5) (.slice a5 k5 c5) (.bool n6) (.slice a6 k6 c6))
      obtain ⟨s0, s1, s2, s3⟩ := bS.c
      have sl := bS.lt
      obtain ⟨r0, r1, r2, r3⟩ := bR.c
      have rf := bR.f
      have rl := bR.lt
      clear hS bS bR HBW
      go_wp2
      refine bodyPost_ret (v := .tuple #[.agg #[.bool n5, .slice a5 k5 c5, .bool n6, .slice a6 k6 c6], .int .i64 0]) ?_ rfl ⟨n5, a5, k5, c5, n6, a6, k6, c6, rfl, HS.out, HF.out⟩
      simp [results, Tryz.results34, go_sem, r0, r1, r2, r3]

end Go.Proofs.YtmnlggmdomcajaaGreat

namespace Go.Proofs.YtmnlggmdomcajaaGreat
open Go.RowKit Lm
set_option linter.unusedSimpArgs false
set_option linter.unusedVariables false
set_option maxRecDepth 100000

/-- A quotient's value, cell by cell. -/
structure QV where
  n1 : Bool
  a1 : Option Addr
  k1 : Nat
  c1 : Nat
  n2 : Bool
  a2 : Option Addr
  k2 : Nat
  c2 : Nat
def QV.v (q : QV) : Value := .agg #[.bool q.n1, .slice q.a1 q.k1 q.c1, .bool q.n2, .slice q.a2 q.k2 q.c2]
def QV.cs (q : QV) : List Value := [.bool q.n1, .slice q.a1 q.k1 q.c1, .bool q.n2, .slice q.a2 q.k2 q.c2]
def flat : List QV → List Value
  | [] => []
  | q :: L => q.cs ++ flat L
theorem flat_len (L : List QV) : (flat L).length = L.length * 4 := by
  induction L with
  | nil => rfl
  | cons q L ih => simp [flat, QV.cs, ih]; omega
theorem flat_app (L M : List QV) : flat (L ++ M) = flat L ++ flat M := by
  induction L with
  | nil => rfl
  | cons q L ih => simp [flat, ih]
theorem flat_get (L : List QV) (j : Nat) (h : j < L.length) : (flat L)[j * 4]? = some (.bool L[j].n1) ∧ (flat L)[j * 4 + 1]? = some (.slice L[j].a1 L[j].k1 L[j].c1) ∧ (flat L)[j * 4 + 2]? = some (.bool L[j].n2) ∧ (flat L)[j * 4 + 3]? = some (.slice L[j].a2 L[j].k2 L[j].c2) := by
  induction L generalizing j with
  | nil => simp at h
  | cons q L ih =>
    cases j with
    | zero => simp [flat, QV.cs]
    | succ j =>
      simp at h
      obtain ⟨t0, t1, t2, t3⟩ := ih j h
      have hl : q.cs.length = 4 := rfl
      have key : ∀ c, (q.cs ++ flat L)[(j + 1) * 4 + c]? = (flat L)[j * 4 + c]? := fun c => by
        rw [List.getElem?_append_right (by omega), hl, show (j + 1) * 4 + c - 4 = j * 4 + c by omega]
      exact ⟨(key 0).trans t0, (key 1).trans t1, (key 2).trans t2, (key 3).trans t3⟩
theorem flat_no (L : List QV) : ∀ u ∈ flat L, ∀ z, u ≠ .int .u32 z := by
  induction L with
  | nil => simp [flat]
  | cons q L ih =>
    intro u hu z
    simp only [flat, List.mem_append] at hu
    rcases hu with hu | hu
    · simp [QV.cs] at hu
      rcases hu with rfl | rfl | rfl | rfl <;> simp
    · exact ih u hu z
theorem flat_one (L : List QV) : ∀ u ∈ flat L, u.oneCell' = true := by
  induction L with
  | nil => simp [flat]
  | cons q L ih =>
    intro u hu
    simp only [flat, List.mem_append] at hu
    rcases hu with hu | hu
    · simp [QV.cs] at hu
      rcases hu with rfl | rfl | rfl | rfl <;> rfl
    · exact ih u hu
theorem noLimb_of {W : World} {g : Nat} {cs : Array Value} {T : TypeId} {fr : Nat × Nat} (h : W.heap[g]? = some (.cells cs T fr)) (hn : ∀ u ∈ cs.toList, ∀ z, u ≠ .int .u32 z) : NoLimb W g := by
  intro j z e
  rw [cell_of_row W g j cs T fr h] at e
  obtain ⟨hj, e⟩ := Array.getElem?_eq_some_iff.1 e
  exact hn _ (by rw [← e]; simp) z rfl
theorem zero_no (n : Nat) : ∀ u ∈ (Builtin.zeroCells (Value.agg #[.bool false, .slice none 0 0, .bool false, .slice none 0 0]).cells n).toList, ∀ z, u ≠ .int .u32 z := by
  intro u hu z
  have hcells : (Value.agg #[.bool false, .slice none 0 0, .bool false, .slice none 0 0]).cells = #[.bool false, .slice none 0 0, .bool false, .slice none 0 0] := rfl
  rw [hcells] at hu
  unfold Builtin.zeroCells at hu
  simp only [Array.toList_map, List.mem_map] at hu
  obtain ⟨x, -, rfl⟩ := hu
  have h4 : x % 4 = 0 ∨ x % 4 = 1 ∨ x % 4 = 2 ∨ x % 4 = 3 := by omega
  show #[Value.bool false, Value.slice none 0 0, Value.bool false, Value.slice none 0 0][x % 4]! ≠ _
  rcases h4 with h4 | h4 | h4 | h4 <;> rw [h4] <;> simp

/-- A row of one's own. -/
def OwnQ (w : World) (base : Nat) (v : Value) (L : List QV) : Prop := w.ownsRow base 26 4 v L.length (flat L) ∧ ∀ g, v.ownBlock = some g → NoLimb w g
theorem ownQ_nil (w : World) (base : Nat) : OwnQ w base (.slice none 0 0) [] := ⟨World.ownsRow_nil _ _ _ _, by simp [Value.ownBlock]⟩
theorem OwnQ.below {w w' : World} {base : Nat} {v : Value} {L : List QV} (h : OwnQ w base v L) (hb : Below w.heap.size w w') : OwnQ w' base v L := by
  have hg : w.grownBy w' none := ⟨hb.os, hb.tape, hb.output, hb.size, fun k hk _ => hb.block k hk⟩
  refine ⟨h.1.kept hg (by cases hv : v.ownBlock with | none => exact .inl rfl | some g => exact .inr (by simp)), fun g hv j z => ?_⟩
  rw [bcells hb g j (h.1.lt g hv).2]
  exact h.2 g hv j z
theorem OwnQ.len {w : World} {base : Nat} {v : Value} {L : List QV} (h : OwnQ w base v L) : ∃ ao cap, v = .slice ao L.length cap ∧ L.length ≤ cap ∧ cap ≤ maxLen ∧ (L.length = 0 ∨ ∃ g, ao = some ⟨g, 0, none⟩ ∧ base ≤ g ∧ g < w.heap.size ∧ ∀ j (hj : j < L.length), At4 w g (j * 4) (.bool L[j].n1) (.slice L[j].a1 L[j].k1 L[j].c1) (.bool L[j].n2) (.slice L[j].a2 L[j].k2 L[j].c2)) := by
  rcases h.1.2 with ⟨rfl, h0⟩ | ⟨g, cap, cur, rfl, hbg, hg, hnc, hcm, hcs, htake⟩
  · exact ⟨none, 0, by rw [h0], by omega, by unfold maxLen; omega, .inl h0⟩
  · refine ⟨_, cap, rfl, hnc, hcm, .inr ⟨g, rfl, hbg, (Array.getElem?_eq_some_iff.1 hg).1, fun j hj => ?_⟩⟩
    obtain ⟨f0, f1, f2, f3⟩ := flat_get L j hj
    have key : ∀ c, c < 4 → w.cell? ⟨g, j * 4 + c, none⟩ = (flat L)[j * 4 + c]? := fun c hc => h.1.cellAt (j * 4 + c) (by omega)
    exact ⟨(key 0 (by omega)).trans f0, (key 1 (by omega)).trans f1, (key 2 (by omega)).trans f2, (key 3 (by omega)).trans f3⟩

theorem run_append_q {w : World} (ty : TypeId) (base : Nat) (v : Value) (L : List QV) (hown : OwnQ w base v L) (a : Addr) (c : Nat) (M : List QV) (hnews : ∀ j u, (flat M)[j]? = some u → w.cell? (a.add j) = some u) (hk : L.length + M.length ≤ 1000000) (hbase : base ≤ w.heap.size) :
    ∃ v' w', (Builtin.append_ #[41, 41] ty #[v, .slice (some a) M.length c]).run Tryz.prog w = .ok v' w' ∧ OwnQ w' base v' (L ++ M) ∧ w.grownBy w' v.ownBlock := by
  obtain ⟨i0, hi, hz0, hz1, hz2⟩ := info_parts Tryz.infoRat
  have h63 : L.length + M.length ≤ maxLen := by unfold maxLen; omega
  have hby : (L.length + M.length) * 64 ≤ 140737488355328 := by omega
  have hl : (flat M).length = M.length * 4 := flat_len M
  obtain ⟨v', w', hr, h1, h2, -⟩ := run_append_own (P := Tryz.prog) w base 41 ty 26 i0 _ 4 64 Tryz.underlying41 hi hz0 hz1 hz2 rfl (by decide) v L.length (flat L) hown.1 a M.length c (flat M) hl hnews (flat_one M) h63 hby hbase
  refine ⟨v', w', hr, ⟨by rw [flat_app, List.length_append]; exact h1, fun g hv => ?_⟩, h2⟩
  rcases hown.1.2 with ⟨rfl, h0⟩ | ⟨g0, cap, cur, rfl, hbg, hg, hnc, hcm, hcs, htake⟩
  · obtain rfl : L = [] := List.eq_nil_of_length_eq_zero h0
    by_cases hm : M.length = 0
    · have : M = [] := List.eq_nil_of_length_eq_zero hm
      subst this
      rcases h1.2 with ⟨rfl, _⟩ | ⟨g', cap', cur', rfl, _, _, _, _, _, _⟩
      · simp [Value.ownBlock] at hv
      · have e : (Builtin.append_ #[41, 41] ty #[.slice none 0 0, .slice (some a) 0 c]).run Tryz.prog w = .ok (.slice none 0 0) w := by
          simp [Builtin.append_, run_underlying Tryz.underlying41, sizeOf, typeInfo, hi, Builtin.lenOf, Builtin.firstCells, loadCells, loadCellsFrom]
        rw [show ([] : List QV).length = 0 from rfl] at hr
        rw [e] at hr
        simp at hr
    · have e := run_append_nil (P := Tryz.prog) w 41 ty 26 i0 _ Tryz.underlying41 hi hz0 a M.length c (flat M) (by rw [hz1]; exact hl) hnews (by omega) (by omega) (by rw [hz2]; omega)
      rw [e] at hr
      simp only [Result.ok.injEq] at hr
      obtain ⟨rfl, rfl⟩ := hr
      simp only [Value.ownBlock, Option.some.injEq] at hv
      subst hv
      refine noLimb_of (heap_alloc_new w.drew _) ?_
      intro u hu z
      simp only [Array.toList_append, List.mem_append] at hu
      rcases hu with hu | hu
      · exact flat_no M u hu z
      · exact zero_no _ u hu z
  · have hno : ∀ u ∈ cur.toList, ∀ z, u ≠ .int .u32 z := by
      intro u hu z e
      obtain ⟨j, hj, rfl⟩ := List.getElem_of_mem hu
      refine hown.2 g0 rfl j z ?_
      rw [cell_of_row w g0 j cur _ _ hg, Array.getElem?_eq_getElem (by simpa using hj)]
      simpa using e
    by_cases hroom : L.length + M.length ≤ cap
    · have hfit : L.length * i0.size + (flat M).length ≤ cur.size := by rw [hl, hz1, hcs, ← Nat.add_mul]; exact Nat.mul_le_mul_right _ hroom
      have e := run_append_room (P := Tryz.prog) w 41 ty 26 i0 Tryz.underlying41 hi g0 L.length cap cur hg a M.length c (flat M) (by rw [hz1]; exact hl) hnews (flat_one M) hroom hfit
      rw [e] at hr
      simp only [Result.ok.injEq] at hr
      obtain ⟨rfl, rfl⟩ := hr
      simp only [Value.ownBlock, Option.some.injEq] at hv
      subst hv
      refine noLimb_of (setRow_heap w g0 cur _ _ _ hg) ?_
      intro u hu z
      simp only [List.mem_append] at hu
      rcases hu with (hu | hu) | hu
      · exact hno u (List.mem_of_mem_take hu) z
      · exact flat_no M u hu z
      · exact hno u (List.mem_of_mem_drop hu) z
    · have holds : ∀ j u, (flat L)[j]? = some u → w.cell? ((⟨g0, 0, none⟩ : Addr).add j) = some u := hown.1.cells (g := g0) rfl
      have e := run_append_grow (P := Tryz.prog) w 41 ty 26 i0 _ Tryz.underlying41 hi hz0 ⟨g0, 0, none⟩ L.length cap (flat L) (by rw [hz1]; exact flat_len L) holds a M.length c (flat M) (by rw [hz1]; exact hl) hnews (by omega) (by omega) (growslice_fits (by omega) (by rw [hz2]; exact hby))
      rw [e] at hr
      simp only [Result.ok.injEq] at hr
      obtain ⟨rfl, rfl⟩ := hr
      simp only [Value.ownBlock, Option.some.injEq] at hv
      subst hv
      refine noLimb_of (heap_alloc_new w.drew _) ?_
      intro u hu z
      simp only [Array.toList_append, List.mem_append] at hu
      rcases hu with (hu | hu) | hu
      · exact flat_no L u hu z
      · exact flat_no M u hu z
      · exact zero_no _ u hu z

/-- .. as a step of a region that draws its order. -/
theorem step_append_q {ops : Array Oper} {o : Oper} {ac : Act} {w : World} {K : Act → World → Prop} {Q : Exit → Act → World → Prop} {E : Prop}
    (hgd : o.guard = none) (s x : Operand) (hop : o.op = Op.call { callee := Callee.builtin Builtin.append, args := #[s, x], argTypes := #[41, 41] })
    (base : Nat) (v : Value) (L : List QV) (hs : ac.eval s = v) (hown : OwnQ w base v L) (a : Addr) (c m : Nat) (M : List QV) (hx : ac.eval x = .slice (some a) m c) (hm : m = M.length) (hnews : ∀ j u, (flat M)[j]? = some u → w.cell? (a.add j) = some u) (hk : L.length + M.length ≤ 1000000) (hbase : base ≤ w.heap.size)
    (hK : ∀ v' w', OwnQ w' base v' (L ++ M) → w.grownBy w' v.ownBlock → K (ac.put o.dst v') w') :
    if Region.wanted o (yielded ops ac.tmps) = true then Oper.wp Tryz.prog o ac w K Q else E := by
  have hw : Region.wanted o (yielded ops ac.tmps) = true := by simp [Region.wanted, hgd]
  rw [if_pos hw]
  subst hm
  obtain ⟨v', w', hrun, r1, r2⟩ := run_append_q (w := w) o.type base v L hown a c M hnews hk hbase
  unfold Oper.wp
  simp [execOp, hop, resolve, invoke, builtin, hs, hx, hrun, Result.andThen]
  exact hK v' w' r1 r2
theorem wpList_append_q {ops : Array Oper} {rest : List Oper} {o : Oper} {ac : Act} {w : World} {Q : Exit → Act → World → Prop}
    (hgd : o.guard = none) (s x : Operand) (hop : o.op = Op.call { callee := Callee.builtin Builtin.append, args := #[s, x], argTypes := #[41, 41] })
    (base : Nat) (v : Value) (L : List QV) (hs : ac.eval s = v) (hown : OwnQ w base v L) (a : Addr) (c m : Nat) (M : List QV) (hx : ac.eval x = .slice (some a) m c) (hm : m = M.length) (hnews : ∀ j u, (flat M)[j]? = some u → w.cell? (a.add j) = some u) (hk : L.length + M.length ≤ 1000000) (hbase : base ≤ w.heap.size)
    (hK : ∀ v' w', OwnQ w' base v' (L ++ M) → w.grownBy w' v.ownBlock → wpList Tryz.prog ops Q rest (ac.put o.dst v') w') : wpList Tryz.prog ops Q (o :: rest) ac w := by
  refine wpList_plain hgd fun K hK' => ?_
  subst hm
  obtain ⟨v', w', hrun, r1, r2⟩ := run_append_q (w := w) o.type base v L hown a c M hnews hk hbase
  unfold Oper.wp
  simp [execOp, hop, resolve, invoke, builtin, hs, hx, hrun, Result.andThen]
  exact hK' _ _ (hK v' w' r1 r2)

end Go.Proofs.YtmnlggmdomcajaaGreat

namespace Go.Proofs.YtmnlggmdomcajaaGreat
open Go.RowKit Lm
set_option linter.unusedSimpArgs false
set_option linter.unusedVariables false
set_option maxRecDepth 100000

/-- A row of one's own, whose quotients are told. -/
def OwnIs (w : World) (base : Nat) (v : Value) (n : Nat) (R : List Rat) : Prop := ∃ L : List QV, L.length = R.length ∧ OwnQ w base v L ∧ ∀ j (h : j < L.length) (h' : j < R.length), RIs w 0 L[j].v n R[j]
theorem OwnIs.below {w w' : World} {base n : Nat} {v : Value} {R : List Rat} (h : OwnIs w base v n R) (hb : Below w.heap.size w w') : OwnIs w' base v n R := by
  obtain ⟨L, h1, h2, h3⟩ := h
  exact ⟨L, h1, h2.below hb, fun j hj hj' => (h3 j hj hj').below hb⟩
theorem OwnIs.qis {w : World} {base n : Nat} {v : Value} {R : List Rat} (h : OwnIs w base v n R) : ∃ ao cap, v = .slice ao R.length cap ∧ QIs w v n R := by
  obtain ⟨L, h1, h2, h3⟩ := h
  obtain ⟨ao, cap, rfl, q1, q2, q3⟩ := h2.len
  refine ⟨ao, cap, by rw [h1], ao, _, cap, rfl, h1, by omega, q2, ?_⟩
  rcases q3 with q3 | ⟨g, rfl, _, hg, hc⟩
  · exact .inl (by omega)
  · refine .inr ⟨g, 0, rfl, hg, fun i hi => ?_⟩
    rw [Nat.zero_add]
    exact ⟨_, _, _, _, _, _, _, _, hc i (by omega), h3 i (by omega) hi⟩
theorem ownIs_nil (w : World) (base n : Nat) : OwnIs w base (.slice none 0 0) n [] := ⟨[], rfl, ownQ_nil _ _, fun j h => by simp at h⟩
theorem OwnIs.shape {w : World} {base n : Nat} {v : Value} {R : List Rat} (h : OwnIs w base v n R) : ∃ ao cap, v = .slice ao R.length cap := by
  obtain ⟨ao, cap, e, -⟩ := h.qis
  exact ⟨ao, cap, e⟩
theorem OwnIs.lt {w : World} {base n : Nat} {v : Value} {R : List Rat} (h : OwnIs w base v n R) : ∀ g, v.ownBlock = some g → base ≤ g ∧ NoLimb w g := by
  obtain ⟨L, h1, h2, h3⟩ := h
  exact fun g hg => ⟨(h2.1.lt g hg).1, h2.2 g hg⟩
theorem OwnIs.mono {w : World} {base n m : Nat} {v : Value} {R : List Rat} (h : OwnIs w base v n R) (hm : n ≤ m) : OwnIs w base v m R := by
  obtain ⟨L, h1, h2, h3⟩ := h
  exact ⟨L, h1, h2, fun j hj hj' => (h3 j hj hj').mono (Nat.le_refl _) hm⟩
/-- One more has been appended. -/
theorem OwnIs.snoc {w w' : World} {base n : Nat} {v v' : Value} {R : List Rat} {L : List QV} {q : QV} {r : Rat} (h1 : L.length = R.length) (h2 : OwnQ w base v L) (h3 : ∀ j (h : j < L.length) (h' : j < R.length), RIs w 0 L[j].v n R[j]) (hq : RIs w 0 q.v n r) (hO : OwnQ w' base v' (L ++ [q])) (hg : w.grownBy w' v.ownBlock) : OwnIs w' base v' n (R ++ [r]) := by
  have move : ∀ u x, RIs w 0 u n x → RIs w' 0 u n x := by
    intro u x hx
    cases hv : v.ownBlock with
    | none =>
      rw [hv] at hg
      exact hx.offL (g := w.heap.size) (fun j z e => by have := World.block_lt_of_cell? w _ e; simp at this) ⟨hg.os, hg.tape, hg.output, hg.size, fun k hk _ => hg.block k hk (by simp)⟩
    | some g =>
      rw [hv] at hg
      exact hx.offL (h2.2 g hv) hg
  refine ⟨L ++ [q], by simp [h1], hO, fun j hj hj' => ?_⟩
  by_cases hl : j < L.length
  · rw [List.getElem_append_left hl, List.getElem_append_left (by omega)]
    exact move _ _ (h3 j hl (by omega))
  · simp at hj
    have : j = L.length := by omega
    subst this
    rw [List.getElem_append_right (by omega), List.getElem_append_right (by omega)]
    simp only [Nat.sub_self, h1, List.getElem_cons_zero]
    exact move _ _ hq
theorem news_one {w : World} {g : Nat} {m7 m8 : Bool} {d7 d8 : Option Addr} {j7 e7 j8 e8 : Nat} (h : Box4 w g (.bool m7) (.slice d7 j7 e7) (.bool m8) (.slice d8 j8 e8)) : ∀ j u, (flat [⟨m7, d7, j7, e7, m8, d8, j8, e8⟩])[j]? = some u → w.cell? ((⟨g, 0, none⟩ : Addr).add j) = some u := by
  obtain ⟨c0, c1, c2, c3⟩ := h.c
  intro j u hu
  match j, hu with
  | 0, hu => simp [flat, QV.cs] at hu; subst hu; simpa [Addr.add] using c0
  | 1, hu => simp [flat, QV.cs] at hu; subst hu; simpa [Addr.add] using c1
  | 2, hu => simp [flat, QV.cs] at hu; subst hu; simpa [Addr.add] using c2
  | 3, hu => simp [flat, QV.cs] at hu; subst hu; simpa [Addr.add] using c3
  | j + 4, hu => simp [flat, QV.cs] at hu

theorem keepT {w U W : World} {b o b' o' g : Nat} {p q r s p' q' r' s' t0 t1 t2 t3 : Value} (h : At4 w b o p q r s) (hl : b < w.heap.size) (h' : At4 w b' o' p' q' r' s') (hl' : b' < w.heap.size) (hb : Below w.heap.size w W) (bT : Box4 U g t0 t1 t2 t3) (hU : Below U.heap.size U W) :
    W.cell? ⟨b, o, none⟩ = some p ∧ W.cell? ⟨b, o + 1, none⟩ = some q ∧ W.cell? ⟨b, o + 2, none⟩ = some r ∧ W.cell? ⟨b, o + 3, none⟩ = some s ∧ W.cell? ⟨b', o', none⟩ = some p' ∧ W.cell? ⟨b', o' + 1, none⟩ = some q' ∧ W.cell? ⟨b', o' + 2, none⟩ = some r' ∧ W.cell? ⟨b', o' + 3, none⟩ = some s' ∧ W.cell? ⟨g, 0, none⟩ = some t0 ∧ W.cell? ⟨g, 1, none⟩ = some t1 ∧ W.cell? ⟨g, 2, none⟩ = some t2 ∧ W.cell? ⟨g, 3, none⟩ = some t3 := by
  obtain ⟨h1, h2, h3, h4⟩ := h.below hl hb
  obtain ⟨h5, h6, h7, h8⟩ := h'.below hl' hb
  obtain ⟨c0, c1, c2, c3⟩ := (bT.keep hU).c
  exact ⟨h1, h2, h3, h4, h5, h6, h7, h8, c0, c1, c2, c3⟩
theorem step_append_is {ops : Array Oper} {o : Oper} {ac : Act} {W : World} {K : Act → World → Prop} {Q : Exit → Act → World → Prop} {E : Prop}
    (hgd : o.guard = none) (s x : Operand) (hop : o.op = Op.call { callee := Callee.builtin Builtin.append, args := #[s, x], argTypes := #[41, 41] })
    (base : Nat) (v : Value) (N : Nat) (R : List Rat) (r : Rat) (hs : ac.eval s = v) (hO : OwnIs W base v N R) (g : Nat) (m7 m8 : Bool) (d7 d8 : Option Addr) (j7 e7 j8 e8 : Nat) (hx : ac.eval x = .slice (some ⟨g, 0, none⟩) 1 1) (hB : Box4 W g (.bool m7) (.slice d7 j7 e7) (.bool m8) (.slice d8 j8 e8)) (hq : RIs W 0 (.agg #[.bool m7, .slice d7 j7 e7, .bool m8, .slice d8 j8 e8]) N r) (hk : R.length ≤ 1000) (hbase : base ≤ W.heap.size)
    (hK : ∀ ro rc w', OwnIs w' base (.slice ro (R.length + 1) rc) N (R ++ [r]) → (∀ B u, B ≤ base → Below B u W → Below B u w') → K (ac.put o.dst (.slice ro (R.length + 1) rc)) w') :
    if Region.wanted o (yielded ops ac.tmps) = true then Oper.wp Tryz.prog o ac W K Q else E := by
  obtain ⟨L, hL1, hQ1, hall1⟩ := hO
  refine step_append_q hgd s x hop base v L hs hQ1 ⟨g, 0, none⟩ 1 1 [⟨m7, d7, j7, e7, m8, d8, j8, e8⟩] hx rfl (news_one hB) (by simp; omega) hbase ?_
  intro v' w' hO' hg
  have hN := OwnIs.snoc (q := ⟨m7, d7, j7, e7, m8, d8, j8, e8⟩) hL1 hQ1 hall1 hq hO' hg
  obtain ⟨ro, rc, rfl⟩ := hN.shape
  simp only [List.length_append, List.length_cons, List.length_nil, Nat.zero_add] at hN ⊢
  exact hK ro rc w' hN (fun B u hB' hb => hb.grown hg (by have := hb.size; omega) (fun q e => by have := (hQ1.1.lt q e).1; omega))
theorem sz_ok (w : World) (o : Obj) : (w.alloc o).heap.size ≤ w.heap.size + 1 := by simp
theorem len_ok {L : List QV} {R : List Rat} {i : Nat} {q : QV} (h1 : L.length = R.length) (h2 : R.length = i) (h : i < 1000000) : L.length + ([q] : List QV).length ≤ 1000000 := by simp; omega
theorem base_ok {w w5 : World} {o o' : Obj} (h : Below (w.alloc o).heap.size (w.alloc o) w5) : w.heap.size + 1 ≤ (w5.alloc o').heap.size := by have := h.size; simp at this ⊢; omega
theorem plusR_take (A B : List Rat) (t : Rat) (i : Nat) (h1 : i < A.length) (h2 : i < B.length) : plusR (A.take (i + 1)) t (B.take (i + 1)) = plusR (A.take i) t (B.take i) ++ [A[i] + t * B[i]] := by
  unfold plusR
  rw [List.take_succ_eq_append_getElem h1, List.take_succ_eq_append_getElem h2, List.zipWith_append (by simp; omega)]
  rfl

def PlusRel (w : World) (n : Nat) (A : List Rat) (t : Rat) (B : List Rat) (ov iv : Value) (wr : World) : Prop := ∃ i : Nat, i ≤ A.length ∧ iv = .int .i64 i ∧ OwnIs wr w.heap.size ov n (plusR (A.take i) t (B.take i)) ∧ Below w.heap.size w wr ∧ True

set_option maxHeartbeats 6400000 in
theorem rplus_any (w : World) (tv : Value) (ao bo : Option Addr) (k ca cb n m q N : Nat) (t : Rat) (A B : List Rat) (ht : RArg w tv m t) (hka : k = A.length) (hkb : k = B.length) (hA : QAt w ao ca n A) (hB : QAt w bo cb q B) (hn : n ≤ 5000) (hm : m ≤ 500) (hq : q ≤ 500) (hk : k ≤ 1000) (hN : 1 ≤ N) (hsz : ∀ r ∈ plusR A t B, Sz N r) :
    Calls Tryz.prog 141 #[.slice ao k ca, tv, .slice bo k cb] w (QPair N (plusR A t B) w) := by
  obtain ⟨n5, a5, k5, c5, n6, a6, k6, c6, rfl⟩ := ht.shape
  have hWl : Below w.heap.size w (w.alloc (.cells #[.bool n5, .slice a5 k5 c5, .bool n6, .slice a6 k6 c6] 26)) := (by repeat (first | exact Below.refl _ _ | refine Below.alloc ?_ ?_ _ | refine Below.setCell ?_ ?_ _ | refine Below.drew ?_ | refine below_drewN ?_ _ | (· simp) | omega | (· simp; omega) | exact Below.size (by assumption) | assumption | refine below_call ?_ (by assumption) ?_))
  have bT : Box4 (w.alloc (.cells #[.bool n5, .slice a5 k5 c5, .bool n6, .slice a6 k6 c6] 26)) w.heap.size (.bool n5) (.slice a5 k5 c5) (.bool n6) (.slice a6 k6 c6) := Box4.new _ _ _ _ _ _ rfl
  have HT := hid ht
  have HA := hid hA
  have HB := hid hB
  have HKA := hid hka
  have HKB := hid hkb
  have HSZ := hid hsz
  clear hA hB ht hka hkb hsz
  go_enter Tryz.func141, Tryz.ntmps141
  go_wp2
  go_loopw [8, 9] (fun ov iv wr => ∃ i : Nat, i ≤ k ∧ iv = .int .i64 i ∧ OwnIs wr (w.heap.size + 1) ov N (plusR (A.take i) t (B.take i)) ∧ Below w.heap.size w wr ∧ Below (w.alloc (.cells #[.bool n5, .slice a5 k5 c5, .bool n6, .slice a6 k6 c6] 26)).heap.size (w.alloc (.cells #[.bool n5, .slice a5 k5 c5, .bool n6, .slice a6 k6 c6] 26)) wr) (fun ov iv wr => k - (intOf iv).toNat)
  case atStart => exact ⟨0, Nat.zero_le _, rfl, by simpa [plusR] using ownIs_nil _ _ _, hWl, Below.refl _ _⟩
  case round =>
    obtain ⟨i, hik, rfl, hO, HBW, HBT⟩ := hrel
    by_cases hlt : i < k
    · have hi1 : i < A.length := by rw [← HKA.out]; exact hlt
      have hi2 : i < B.length := by rw [← HKB.out]; exact hlt
      obtain ⟨b1, o1, rfl, l1⟩ := HA.out.spot (by omega)
      obtain ⟨b2, o2, rfl, l2⟩ := HB.out.spot (by omega)
      obtain ⟨n1, a1, k1, c1, n2, a2, k2, c2, p1, p2, p3, p4, pA⟩ := (HA.out.at i hi1).1
      obtain ⟨n3, a3, k3, c3, n4, a4, k4, c4, q1, q2, q3, q4, pB⟩ := (HB.out.at i hi2).1
      have hC1 : At4 w b1 (o1 + i * 4) (.bool n1) (.slice a1 k1 c1) (.bool n2) (.slice a2 k2 c2) := ⟨p1, p2, p3, p4⟩
      have hC2 : At4 w b2 (o2 + i * 4) (.bool n3) (.slice a3 k3 c3) (.bool n4) (.slice a4 k4 c4) := ⟨q1, q2, q3, q4⟩
      have HX := hid pA
      have HY := hid pB
      have HE : Hid (plusR (A.take (i + 1)) t (B.take (i + 1)) = plusR (A.take i) t (B.take i) ++ [A[i] + t * B[i]]) := hid (plusR_take A B t i hi1 hi2)
      have HZ : Hid (Sz N (A[i] + t * B[i])) := hid (by
        have hl : (plusR A t B).length = A.length := plusR_len (HKA.out.symm.trans HKB.out)
        have := HSZ.out _ (List.getElem_mem (show i < (plusR A t B).length by omega))
        rwa [plusR_at (by omega) hi1 hi2] at this)
      have HLR : Hid ((plusR (A.take i) t (B.take i)).length ≤ 1000) := hid (by rw [plusR_len (by simp; omega), List.length_take]; omega)
      clear p1 p2 p3 p4 q1 q2 q3 q4 pA pB
      generalize A[i] = x at *
      generalize B[i] = y at *
      generalize plusR (A.take i) t (B.take i) = R0 at *
      obtain ⟨ov1, ov2, rfl⟩ := hO.shape
      replace HBW := HBW.drew
      replace HBT := HBT.drew
      replace hO : OwnIs wr.drew _ _ _ _ := hO.below (Below.refl _ _).drew
      go_wp2
      go_region_held3 (fun W' => W'.cell? ⟨b1, o1 + i * 4, none⟩ = some (.bool n1) ∧ W'.cell? ⟨b1, o1 + i * 4 + 1, none⟩ = some (.slice a1 k1 c1) ∧ W'.cell? ⟨b1, o1 + i * 4 + 2, none⟩ = some (.bool n2) ∧ W'.cell? ⟨b1, o1 + i * 4 + 3, none⟩ = some (.slice a2 k2 c2) ∧ W'.cell? ⟨b2, o2 + i * 4, none⟩ = some (.bool n3) ∧ W'.cell? ⟨b2, o2 + i * 4 + 1, none⟩ = some (.slice a3 k3 c3) ∧ W'.cell? ⟨b2, o2 + i * 4 + 2, none⟩ = some (.bool n4) ∧ W'.cell? ⟨b2, o2 + i * 4 + 3, none⟩ = some (.slice a4 k4 c4) ∧ W'.cell? ⟨w.heap.size, 0, none⟩ = some (.bool n5) ∧ W'.cell? ⟨w.heap.size, 1, none⟩ = some (.slice a5 k5 c5) ∧ W'.cell? ⟨w.heap.size, 2, none⟩ = some (.bool n6) ∧ W'.cell? ⟨w.heap.size, 3, none⟩ = some (.slice a6 k6 c6)) (first | with_reducible exact keepT hC1 l1 hC2 l2 HBW bT HBT | exact keepT hC1 l1 hC2 l2 (HBW.alloc HBW.size _) bT (HBT.alloc HBT.size _)) (first
        | (go_at_call 84; go_must (refine (mulRat_any _ _ _ m q t y (HT.out.below HBW) (HY.out.below HBW) (by omega) (by omega)).mono ?_); rintro e w4 ⟨m5, d5, j5, e5, m6, d6, j6, e6, rfl, hM, hb⟩; have HBn := below_call HBW hb HBW.size; have HTn := below_call HBT hb HBT.size; have hOn := hO.below hb; clear HBW HBT hO hb; have HBW := HBn; have HBT := HTn; have hO := hOn; clear HBn HTn hOn)
        | (go_at_call 37; go_must (refine (addRat_any _ _ _ n (2 * m + 2 * q + 8) x (t * y) (HX.out.below HBW) hM.arg hn (by omega)).mono ?_); rintro e w5 ⟨m7, d7, j7, e7, m8, d8, j8, e8, rfl, hAd, hb⟩; have HBn := below_call HBW hb HBW.size; have HTn := below_call HBT hb HBT.size; have hOn := hO.below hb; clear HBW HBT hO hb; have HBW := HBn; have HBT := HTn; have hO := hOn; clear HBn HTn hOn)
        | (refine step_append_is rfl (.tmp 21) (.tmp 33) rfl (w.heap.size + 1) (.slice ov1 R0.length ov2) N R0 (x + t * y) rfl (hO.below ((Below.refl _ _).alloc (Nat.le_refl _) (.cells #[.bool m7, .slice d7 j7 e7, .bool m8, .slice d8 j8 e8] 26))) w5.heap.size m7 m8 d7 d8 j7 e7 j8 e8 rfl (Box4.new w5 (.bool m7) (.slice d7 j7 e7) (.bool m8) (.slice d8 j8 e8) w5.heap.size rfl) ((hAd.tight HZ.out.1 HZ.out.2).below ((Below.refl _ _).alloc (Nat.le_refl _) (.cells #[.bool m7, .slice d7 j7 e7, .bool m8, .slice d8 j8 e8] 26))) HLR.out (base_ok HBT) ?_; intro ro rc w6 hN hB6; have HBn := hB6 _ _ (Nat.le_succ _) (HBW.alloc HBW.size (.cells #[.bool m7, .slice d7 j7 e7, .bool m8, .slice d8 j8 e8] 26)); have HTn := hB6 _ _ (sz_ok _ _) (HBT.alloc HBT.size (.cells #[.bool m7, .slice d7 j7 e7, .bool m8, .slice d8 j8 e8] 26)); clear HBW HBT hO hB6; have HBW := HBn; have HBT := HTn; clear HBn HTn))
      have HR := hid hN
      have HBW2 := hid HBW
      have HBT2 := hid HBT
      clear hN HBW HBT hAd hM
      go_wp2
      go_roundw
      case rel => exact ⟨i + 1, by omega, by go_num, by rw [HE.out]; exact HR.out, HBW2.out, HBT2.out⟩
      case measure => simp [intOf]; omega
    · have hke : i = k := by omega
      subst hke
      have HE : Hid (plusR (A.take i) t (B.take i) = plusR A t B) := hid (by rw [List.take_of_length_le (by rw [← HKA.out]; omega), List.take_of_length_le (by rw [← HKB.out]; omega)])
      rw [HE.out] at hO
      obtain ⟨ro, rc, rfl, hQ⟩ := hO.qis
      have HR : Hid (QPair N (plusR A t B) w (.returned (.tuple #[.slice ro (plusR A t B).length rc, .int .i64 0])) wr) := ⟨ro, _, rc, rfl, rfl, hQ, HBW⟩
      clear hO hQ HBW HBT
      go_wp2
      refine bodyPost_ret (v := .tuple #[.slice ro (plusR A t B).length rc, .int .i64 0]) ?_ rfl HR.out
      simp [results, Tryz.results141, go_sem]

end Go.Proofs.YtmnlggmdomcajaaGreat

namespace Go.Proofs.YtmnlggmdomcajaaGreat
open Go.RowKit Lm
set_option linter.unusedSimpArgs false
set_option linter.unusedVariables false
set_option maxRecDepth 100000

theorem qis_at {W : World} {ao : Option Addr} {k cap n : Nat} {R : List Rat} (h : QIs W (.slice ao k cap) n R) : k = R.length ∧ k ≤ 9223372036854775807 ∧ (0 < R.length → ∃ b off, ao = some ⟨b, off, none⟩ ∧ b < W.heap.size ∧ ∀ i (h : i < R.length), ∃ n1 a1 k1 c1 n2 a2 k2 c2, At4 W b (off + i * 4) (.bool n1) (.slice a1 k1 c1) (.bool n2) (.slice a2 k2 c2) ∧ RIs W 0 (.agg #[.bool n1, .slice a1 k1 c1, .bool n2, .slice a2 k2 c2]) n R[i]) := by
  obtain ⟨ao', k', cap', e, hk, h1, h2, h3⟩ := h
  simp only [Value.slice.injEq] at e
  obtain ⟨rfl, rfl, rfl⟩ := e
  unfold maxLen at h2
  refine ⟨hk, by omega, fun h0 => ?_⟩
  rcases h3 with h3 | h3
  · omega
  · exact h3
theorem qis_nil (W : World) (n : Nat) : QIs W (.slice none 0 0) n [] := ⟨none, 0, 0, rfl, rfl, Nat.le_refl _, by unfold maxLen; omega, .inl rfl⟩

theorem rdot_no (w : World) (ao bo : Option Addr) (k j ca cb : Nat) (hk : k ≠ j) (hk1 : k ≤ 9223372036854775807) (hj1 : j ≤ 9223372036854775807) :
    Calls Tryz.prog 34 #[.slice ao k ca, .slice bo j cb] w (fun e w' => e = .returned (.tuple #[.agg #[.bool false, .slice none 0 0, .bool false, .slice none 0 0], .int .i64 1]) ∧ Below w.heap.size w w') := by
  have hne : ((k : Int) != (j : Int)) = true := by simp; omega
  have bR : Box4 (w.alloc (.cells #[.bool false, .slice none 0 0, .bool false, .slice none 0 0] 26)) w.heap.size (.bool false) (.slice none 0 0) (.bool false) (.slice none 0 0) := Box4.new _ _ _ _ _ _ rfl
  have hW1 : Below w.heap.size w (w.alloc (.cells #[.bool false, .slice none 0 0, .bool false, .slice none 0 0] 26)) := (by repeat (first | exact Below.refl _ _ | refine Below.alloc ?_ ?_ _ | refine Below.setCell ?_ ?_ _ | refine Below.drew ?_ | refine below_drewN ?_ _ | (· simp) | omega | (· simp; omega) | exact Below.size (by assumption) | assumption | refine below_call ?_ (by assumption) ?_))
  obtain ⟨r0, r1, r2, r3⟩ := bR.c
  have rf := bR.f
  have rl := bR.lt
  go_enter Tryz.func34, Tryz.ntmps34
  go_wp2
  refine bodyPost_ret (v := .tuple #[.agg #[.bool false, .slice none 0 0, .bool false, .slice none 0 0], .int .i64 1]) ?_ rfl ⟨rfl, hW1⟩
  simp [results, Tryz.results34, go_sem, r0, r1, r2, r3]
theorem rplus_no (w : World) (n3 n4 : Bool) (a3 a4 : Option Addr) (k3 c3 k4 c4 : Nat) (ao bo : Option Addr) (k j ca cb : Nat) (hk : k ≠ j) (hk1 : k ≤ 9223372036854775807) (hj1 : j ≤ 9223372036854775807) :
    Calls Tryz.prog 141 #[.slice ao k ca, Value.agg #[Value.bool n3, Value.slice a3 k3 c3, Value.bool n4, Value.slice a4 k4 c4], .slice bo j cb] w (fun e w' => e = .returned (.tuple #[.slice none 0 0, .int .i64 1]) ∧ Below w.heap.size w w') := by
  have hWl : Below w.heap.size w (w.alloc (.cells #[.bool n3, .slice a3 k3 c3, .bool n4, .slice a4 k4 c4] 26)) := (by repeat (first | exact Below.refl _ _ | refine Below.alloc ?_ ?_ _ | refine Below.setCell ?_ ?_ _ | refine Below.drew ?_ | refine below_drewN ?_ _ | (· simp) | omega | (· simp; omega) | exact Below.size (by assumption) | assumption | refine below_call ?_ (by assumption) ?_))
  have hne : ((k : Int) != (j : Int)) = true := by simp; omega
  go_enter Tryz.func141, Tryz.ntmps141
  go_wp2
  refine bodyPost_ret (v := .tuple #[.slice none 0 0, .int .i64 1]) ?_ rfl ⟨rfl, hWl⟩
  simp [results, Tryz.results141, go_sem]

variable {U W W' : World} {KR KS KR' KS' : List (Value × Nat × Rat)} {RR RS RR' RS' : List (Value × Nat × List Rat)} {u v : Value} {n m : Nat} {r t : Rat} {A B R : List Rat}
theorem ve_rdot (E : VE U W KR KS RR RS) {ao bo : Option Addr} {k ca cb : Nat} (hu : (.slice ao k ca, n, A) ∈ RR) (hv : (.slice bo k cb, m, B) ∈ RR) (hn : 1 ≤ n) (hm : 1 ≤ m) (hk : (n + m) * k ≤ 4000) : Calls Tryz.prog 34 #[.slice ao k ca, .slice bo k cb] W (SaysP U W KR KS RR RS ((n + m) * k + 1) (dotR A B)) :=
  (rdot_any W ao bo k ca cb n m A B (qsl_at (E.rr _ hu)).1 (qsl_at (E.rr _ hv)).1 (qsl_at (E.rr _ hu)).2 (qsl_at (E.rr _ hv)).2 hn hm hk).mono fun e w' h => saysP_of E h
theorem ve_rplus {q : Nat} (E : VE U W KR KS RR RS) {ao bo : Option Addr} {k ca cb : Nat} (N : Nat) (hu : (.slice ao k ca, n, A) ∈ RR) (ht : (v, m, t) ∈ KR) (hv : (.slice bo k cb, q, B) ∈ RR) (hn : n ≤ 5000) (hm : m ≤ 500) (hq : q ≤ 500) (hk : k ≤ 1000) (hN : 1 ≤ N) (hsz : ∀ r ∈ plusR A t B, Sz N r) : Calls Tryz.prog 141 #[.slice ao k ca, v, .slice bo k cb] W (SaysW U W KR KS RR RS N (plusR A t B)) :=
  (rplus_any W v ao bo k ca cb n m q N t A B (E.r _ ht) (qsl_at (E.rr _ hu)).1 (qsl_at (E.rr _ hv)).1 (qsl_at (E.rr _ hu)).2 (qsl_at (E.rr _ hv)).2 hn hm hq hk hN hsz).mono fun e w' h => saysW_of E h
theorem sz_qis {W : World} {v : Value} {N : Nat} (hN : 1 ≤ N) (h : QIs W v N R) : ∀ r ∈ R, Sz N r := by
  obtain ⟨ao, k, cap, rfl, hk, hA⟩ := h.sl
  exact hA.sz hN

end Go.Proofs.YtmnlggmdomcajaaGreat
