/-
  Walks: long division.
-/
import Derived.Test.YtalblhcfkfockaaW23
import Derived.Test.YtalblhcfkfockaaW8
namespace Go.Proofs.Ytalblhcfkfockaa
open Go.RowKit Lm
set_option linter.unusedSimpArgs false
set_option linter.unusedVariables false
set_option maxRecDepth 100000

/-- What stands at the head of a round of long division. -/
structure DivAt (W wr : World) (gU gV gQ L n VV k : Nat) (U0 R2 C Q : List Nat) : Prop where
  hk : k ≤ L - n + 1
  lc : C.length = L + 1
  okc : ok C
  lq : Q.length = L - n + 1
  okq : ok Q
  ev : val (U0.drop k) = val (Q.drop k) * VV + val (C.drop k)
  lt : val (C.drop k) < VV
  tk : C.take k = U0.take k
  ru : RowAt wr gU C
  rv : RowAt wr gV R2
  rq : RowAt wr gQ Q
  bl : Below W.heap.size W wr
def DivRel (W : World) (gU gV gQ L n VV : Nat) (U0 R2 : List Nat) (iv : Value) (wr : World) : Prop :=
  ∃ (k : Nat) (C Q : List Nat), iv = .int .i64 ((k : Int) - 1) ∧ DivAt W wr gU gV gQ L n VV k U0 R2 C Q

/-- The next round. -/
theorem divAt_step {W wr w5 : World} {gU gV gQ L n VV j q : Nat} {U0 R2 C Q A2 : List Nat} (h : DivAt W wr gU gV gQ L n VV (j + 1) U0 R2 C Q) (hn : n ≤ L) (hu : U0.length = L + 1) (hVV : VV ≤ pw n)
    (hA : val ((C.drop j).take (n + 1)) = val A2 + q * VV) (hlt : val A2 < VV) (okA : ok A2) (lA : A2.length = n + 1) (hq : q < 4294967296) (hne1 : gU ≠ gQ) (hne2 : gV ≠ gQ) (hgQ : W.heap.size ≤ gQ)
    (ru : RowAt w5 gU (C.take j ++ (A2 ++ C.drop (j + n + 1)))) (rv : RowAt w5 gV R2) (rq : RowAt w5 gQ Q) (bl : Below W.heap.size W w5) :
    DivAt W (w5.setCell ⟨gQ, j, none⟩ (.int .u32 (q : Int))) gU gV gQ L n VV j U0 R2 (C.take j ++ (A2 ++ C.drop (j + n + 1))) (Q.set j q) := by
  have hk := h.hk
  have hlc := h.lc
  have hlq := h.lq
  have hp := part_eq h.okc (by rw [hlc]; omega) h.lt hVV
  have htl : (C.take j).length = j := by simp; omega
  have hd : (C.take j ++ (A2 ++ C.drop (j + n + 1))).drop j = A2 ++ C.drop (j + n + 1) := by
    rw [List.drop_append_of_le_length (by omega), List.drop_of_length_le (by omega), List.nil_append]
  refine ⟨by omega, ?_, ?_, by rw [List.length_set]; exact hlq, ok_set h.okq _ _ hq, ?_, ?_, ?_, ?_, ?_, rq.set _ _, bl.setCell hgQ _⟩
  · simp only [List.length_append, htl, lA, List.length_drop, hlc]; omega
  · exact ok_append.2 ⟨ok_take h.okc _, ok_append.2 ⟨okA, ok_drop h.okc _⟩⟩
  · rw [hd]
    exact round_eq (C := C) (by omega) (by omega) (by omega) (take_getD h.tk (by omega)) h.ev (by rw [← hp.2.1]; exact hA) hp.1
  · rw [hd, val_append, hp.1]; omega
  · rw [List.take_append_of_le_length (by omega), List.take_of_length_le (by omega)]
    have := congrArg (List.take j) h.tk
    simpa [List.take_take] using this
  · exact (heap_setCell_other w5 ⟨gQ, j, none⟩ gU _ hne1).trans ru
  · exact (heap_setCell_other w5 ⟨gQ, j, none⟩ gV _ hne2).trans rv

theorem below_grown {W w w' : World} {g : Nat} (h : Below W.heap.size W w) (hg : w.grownBy w' (some g)) (hgl : W.heap.size ≤ g) : Below W.heap.size W w' :=
  h.grown hg h.size (by intro k e; simp at e; omega)

theorem addInto_kk (w : World) (g o cap ka : Nat) (P A T : List Nat) (bo : Option Addr) (cb kb : Nat) (B : List Nat) (ho : o = P.length) (hka : ka = A.length) (hkb : kb = B.length) (hrow : RowAt w g (P ++ (A ++ T))) (hok : ok A) (hl : A.length ≤ 2000000) (hc : A.length ≤ cap) (hcm : cap ≤ 9223372036854775807)
    (hB : SlAt w bo cb B) (hne : 0 < B.length → ∀ ad, bo = some ad → ad.block ≠ g) (hBA : B.length ≤ A.length) :
    Calls Try.prog 116 #[.slice (some ⟨g, o, none⟩) ka cap, .slice bo kb cb] w fun e w' => ∃ (A' : List Nat) (c : Nat), e = .returned (.int .u32 (c : Int)) ∧ RowAt w' g (P ++ (A' ++ T)) ∧ A'.length = A.length ∧ ok A' ∧ val A' + pw A.length * c = val A + val B ∧ c ≤ 1 ∧ w.grownBy w' (some g) := by
  subst hkb
  exact addInto_k w g o cap ka P A T bo cb B ho hka hrow hok hl hc hcm hB hne hBA

set_option maxHeartbeats 6400000 in
theorem divLong_any (W : World) (ao : Option Addr) (ca : Nat) (la : List Nat) (bo : Option Addr) (cb : Nat) (lb : List Nat) (ha : SlAt W ao ca la) (hb : SlAt W bo cb lb) (hcb : canon lb) (hn : 2 ≤ lb.length) (hle : lb.length ≤ la.length) (hN : la.length ≤ 999999) :
    Calls Try.prog 109 #[.slice ao la.length ca, .slice bo lb.length cb] W (DivPost W la lb) := by
  have hca := ha.2.2.1
  have hcb2 := hb.2.2.1
  have hla := ha.2.1
  have hlb := hb.2.1
  unfold maxLen at hca hcb2
  obtain ⟨i0, hi, hz0, hz1, hz2⟩ := info_parts Try.info32
  have htop := canon_last hcb (by omega)
  have htb := ok_getD hb.1 (lb.length - 1)
  have hcell : ∃ b off, bo = some ⟨b, off, none⟩ ∧ b < W.heap.size ∧ W.cell? ⟨b, off + (lb.length - 1), none⟩ = some (.int .u32 ((lb.getD (lb.length - 1) 0 : Nat) : Int)) := by
    rcases hb.2.2.2 with ⟨_, _⟩ | ⟨b, off, rfl, hltb, hc⟩
    · omega
    · exact ⟨b, off, rfl, hltb, hc _ (by omega)⟩
  obtain ⟨b, off, rfl, hltb, hc1⟩ := hcell
  obtain ⟨t, hte⟩ : ∃ t, t = lb.getD (lb.length - 1) 0 := ⟨_, rfl⟩
  rw [← hte] at hc1 htop htb
  have HTE := hid hte
  have ht0 : 0 < t := by omega
  clear hte htop
  go_enter Try.func109, Try.ntmps109
  go_wp2_with fail
  refine (lead_any t _ ht0 htb).mono ?_
  rintro e w1 ⟨s, rfl, rfl, hs, hs1, hs2⟩
  rw [HTE.out] at hs1 hs2
  have HS1 := hid hs1
  have HS2 := hid hs2
  clear hs1 hs2
  go_wp2_with fail
  refine (shiftedUp_any _ ao ca la ha (by omega) s hs).mono ?_
  rintro e w2 ⟨U0, rfl, hr2, hl2, hok2, hv2, hb2⟩
  have HL2 := hid hl2
  have HV2 := hid hv2
  clear hl2 hv2
  go_wp2_with fail
  refine (shiftedUp_any _ _ cb lb (hb.below hb2) (by omega) s hs).mono ?_
  rintro e w3 ⟨R2, rfl, hr3, hl3, hok3, hv3, hb3⟩
  have hr2' := hr2.below hb3
  have hg2 := hr2.lt
  have hg3 := hr3.lt
  have hW3 : Below w1.heap.size w1 w3 := below_call hb2 hb3 hb2.size
  have hnorm := norm_lt hb.1 rfl (by omega) hs HS1.out
  have HHZ := hid (high_zero (C := R2) (n := lb.length) (by rw [hv3]; exact hnorm) (Nat.le_refl _) (by rw [hl3]; omega))
  have HVV : Hid (val (R2.take lb.length) = val lb * 2 ^ s) := hid (by rw [HHZ.out.2, hv3])
  have hVok : ok (R2.take lb.length) := ok_take hok3 _
  have hVl : (R2.take lb.length).length = lb.length := by simp; omega
  have HTB := hid (top_bit hb.1 hVok rfl hVl (by omega) HVV.out HS2.out)
  have HFL := hid (first_lt hVok hVl (by omega) hs hle rfl HL2.out HV2.out (val_lt ha.1) HTB.out)
  have hVVle : val (R2.take lb.length) ≤ pw lb.length := by have := val_lt hVok; rw [hVl] at this; omega
  have HVL := hid hVl
  have HVVle := hid hVVle
  have HL3 := hid hl3
  have HN := hid hnorm
  clear hl3 hv3 hVl hVVle hnorm
  go_wp2_with (at_make; go_must (refine wpList_make_full _ rfl _ _ 25 rfl w3.heap.size 73 i0 (.int .u32 0) 1 Try.underlying25 hi hz0 hz1 .i64 .i64 _ _ (la.length - lb.length + 1) rfl rfl (by omega) (by omega) (by rw [hz2]; omega) (by unfold maxLen; omega) (by simp) ?_); intro w4 hown hgrow; rw [made32] at hown; obtain ⟨hrow4, _⟩ := rowAt_of_own hown; have hb4 : Below w3.heap.size w3 w4 := (Below.refl _ _).grown hgrow (Nat.le_refl _) (by simp); clear hown hgrow)
  have hW4 : Below w1.heap.size w1 w4 := below_call hW3 hb4 hW3.size
  have hD0 : DivAt w1 w4 w1.heap.size w2.heap.size w3.heap.size la.length lb.length (val (R2.take lb.length)) (la.length - lb.length + 1) U0 R2 U0 (List.replicate (la.length - lb.length + 1) 0) :=
    ⟨Nat.le_refl _, HL2.out, hok2, by simp, ok_replicate _, by rw [List.drop_of_length_le (l := List.replicate _ _) (by simp)]; simp [val], HFL.out, rfl, hr2'.below hb4, hr3.below hb4, hrow4, hW4⟩
  have HD0 := hid hD0
  clear hD0 hr2 hr2' hr3 hrow4 hW3 hb4 hb3
  go_loopw [10] (fun iv wr => DivRel w1 w1.heap.size w2.heap.size w3.heap.size la.length lb.length (val (R2.take lb.length)) U0 R2 iv wr) (fun iv wr => (intOf iv + 1).toNat)
  case atStart => exact ⟨la.length - lb.length + 1, U0, _, by go_num, HD0.out⟩
  case round =>
    obtain ⟨k, C, Q, rfl, hD⟩ := hrel
    have HD := hid hD
    have hkL := hD.hk
    by_cases hk0 : k = 0
    · subst hk0
      have HRU := hid hD.ru
      clear hD
      go_wp2_with fail
      have hlc := HD.out.lc
      have hru := HD.out.ru
      have htk := high_zero (C := C) (n := lb.length) (by have := HD.out.lt; simpa using this) HVVle.out (by omega)
      have hsl : SlAt wr (some ⟨w1.heap.size, 0, none⟩) (la.length + 1) (C.take lb.length) := by
        have := hru.slAt HD.out.okc 0 lb.length (la.length + 1) (by omega) (by omega) (by unfold maxLen; omega)
        simpa using this
      refine (shiftedDown_any _ _ _ lb.length (C.take lb.length) (by simp; omega) hsl (by simp; omega) s hs).mono ?_
      rintro e w5 ⟨R, rfl, hr5, hl5, hok5, hv5, hb5⟩
      have hev := HD.out.ev
      simp only [List.drop_zero] at hev
      have hlt := HD.out.lt
      simp only [List.drop_zero] at hlt
      rw [HVV.out, HV2.out] at hev
      rw [HVV.out] at hlt
      have hbp : 0 < val lb := by
        have h1 := canon_pos hcb (by intro e; subst e; simp at hn)
        have h2 := pw_pos (lb.length - 1)
        omega
      have hend := div_end (n := 0) (C := []) (r := val R) hbp hev hlt (by rw [hv5, htk.2])
      have hlen : (C.take lb.length).length = lb.length := by simp; omega
      rw [hlen] at hl5 ⊢
      have HF : Hid (DivPost w1 la lb (.returned (.tuple #[.slice (some ⟨w3.heap.size, 0, none⟩) (la.length - lb.length + 1) (la.length - lb.length + 1), .slice (some ⟨wr.heap.size, 0, none⟩) lb.length lb.length])) w5) := by
        refine ⟨some ⟨w3.heap.size, 0, none⟩, la.length - lb.length + 1, la.length - lb.length + 1, some ⟨wr.heap.size, 0, none⟩, lb.length, lb.length, Q, R, rfl, HD.out.lq.symm, hl5.symm, ?_, from_row _ _ _ (by omega), ?_, from_row _ _ _ HD.out.bl.size, hend.1, hend.2, by rw [HD.out.lq]; omega, by rw [hl5]; omega, below_call HD.out.bl hb5 HD.out.bl.size⟩
        · have := (HD.out.rq.below hb5).whole HD.out.okq (by rw [HD.out.lq]; omega)
          rwa [HD.out.lq] at this
        · have := hr5.whole hok5 (by rw [hl5]; omega)
          rwa [hl5] at this
      clear hev hlt hend hr5 hl5 hok5 hv5 hb5 htk hsl hru hlc hlen
      go_wp2
      go_ret2
      exact HF.out
    · obtain ⟨j, rfl⟩ : ∃ j, k = j + 1 := ⟨k - 1, by omega⟩
      have hij : ((j + 1 : Nat) : Int) - 1 = (j : Int) := by omega
      rw [hij]
      have hp := part_eq hD.okc (by rw [hD.lc]; omega) hD.lt HVVle.out
      have HP := hid hp
      have hcl := hD.lc
      have HAL : Hid (((C.drop j).take (lb.length + 1)).length = lb.length + 1) := hid (by simp; omega)
      have HPL : Hid (j = (C.take j).length) := hid (by simp; omega)
      have hsl : SlAt wr (some ⟨w1.heap.size, j, none⟩) (la.length + 1 - j) ((C.drop j).take (lb.length + 1)) := hD.ru.slAt hD.okc j (lb.length + 1) (la.length + 1 - j) (by omega) (by omega) (by unfold maxLen; omega)
      have HSL := hid hsl
      have HCL := hid hcl
      have HSV : Hid (∀ wx, RowAt wx w2.heap.size R2 → SlAt wx (some ⟨w2.heap.size, 0, none⟩) (lb.length + 1) (R2.take lb.length)) := hid (by
        intro wx hx
        have := hx.slAt hok3 0 lb.length (lb.length + 1) (by rw [HL3.out]; omega) (by omega) (by unfold maxLen; omega)
        simpa using this)
      clear hD hp hsl hcl hij
      go_wp2_with fail
      refine (guess_any wr _ _ _ ((C.drop j).take (lb.length + 1)) _ _ _ (R2.take lb.length) lb.length HSL.out (HSV.out wr HD.out.rv) (by rw [HAL.out]; omega) HVL.out.symm HAL.out HVL.out hn HTB.out (by rw [HP.out.2.1]; exact HP.out.2.2)).mono ?_
      rintro e w5 ⟨q, rfl, hq, hq1, hq2, hb5⟩
      have HQ1 := hid hq1
      have HQ2 := hid hq2
      clear hq1 hq2
      have hru5 : RowAt w5 w1.heap.size (C.take j ++ ((C.drop j).take (lb.length + 1) ++ C.drop (j + lb.length + 1))) := by
        have h1 : C.take j ++ ((C.drop j).take (lb.length + 1) ++ C.drop (j + lb.length + 1)) = C := by
          rw [show j + lb.length + 1 = j + (lb.length + 1) by omega, ← List.drop_drop, List.take_append_drop, List.take_append_drop]
        rw [h1]
        exact HD.out.ru.below hb5
      have hrv5 := HD.out.rv.below hb5
      have hrq5 := HD.out.rq.below hb5
      have hW5 := below_call HD.out.bl hb5 HD.out.bl.size
      have HOA : Hid (ok ((C.drop j).take (lb.length + 1))) := hid (ok_take (ok_drop HD.out.okc _) _)
      go_wp2_with fail
      refine (subTimes_any w5 w1.heap.size j (la.length + 1 - j) _ (C.take j) ((C.drop j).take (lb.length + 1)) (C.drop (j + lb.length + 1)) _ _ _ (R2.take lb.length) q HPL.out (by rw [HAL.out]; omega) HVL.out.symm hru5 HOA.out (by rw [HAL.out]; omega) (by rw [HAL.out]; omega) (by omega) (HSV.out w5 hrv5) (by intro _ ad e; simp at e; subst e; simp; omega) (by rw [HAL.out, HVL.out]) hq).mono ?_
      rintro e w6 ⟨A1, ov, bv, rfl, HBV, hov, hr6, hl6, hok6, hv6, hg6⟩
      have hrv6 := hrv5.kept hg6 (by simp; omega)
      have hrq6 := hrq5.kept hg6 (by simp; omega)
      have hW6 := below_grown hW5 hg6 (Nat.le_refl _)
      have HL6 : Hid (A1.length = lb.length + 1) := hid (by rw [hl6, HAL.out])
      rw [HAL.out] at hv6
      have HV6 := hid hv6
      have HLTA : Hid (val A1 < pw (lb.length + 1)) := hid (by have := val_lt hok6; rwa [HL6.out] at this)
      clear hl6 hv6 hru5 hg6 hrv5 hrq5 hb5 hW5
      by_cases ho1 : ov = 1
      · have hbv : bv = true := by rw [HBV.out, ho1]; rfl
        subst hbv
        have HOV := hid ho1
        have HLT : Hid (val ((C.drop j).take (lb.length + 1)) < q * val (R2.take lb.length)) := hid (by
          have h1 := HV6.out
          rw [HOV.out, Nat.mul_one] at h1
          have h2 := HLTA.out
          omega)
        have hq0 : 0 < q := by
          rcases Nat.eq_zero_or_pos q with h | h
          · have := HLT.out; rw [h] at this; simp at this
          · exact h
        clear ho1 hov
        go_wp2_with fail
        refine (addInto_kk w6 w1.heap.size j (la.length + 1 - j) _ (C.take j) A1 (C.drop (j + lb.length + 1)) (some ⟨w2.heap.size, 0, none⟩) (lb.length + 1) lb.length (R2.take lb.length) HPL.out (by rw [HL6.out]; omega) HVL.out.symm hr6 hok6 (by rw [HL6.out]; omega) (by rw [HL6.out]; omega) (by omega) (HSV.out w6 hrv6) (by intro _ ad e; simp at e; subst e; simp; omega) (by rw [HL6.out, HVL.out]; omega)).mono ?_
        rintro e w7 ⟨A2, c, rfl, hr7, hl7, hok7, hv7, hc7, hg7⟩
        have hrv7 := hrv6.kept hg7 (by simp; omega)
        have hrq7 := hrq6.kept hg7 (by simp; omega)
        have hW7 := below_grown hW6 hg7 (Nat.le_refl _)
        have HL7 : Hid (A2.length = lb.length + 1) := hid (by rw [hl7, HL6.out])
        rw [HL6.out] at hv7
        have hlt7 : val A2 < pw (lb.length + 1) := by have := val_lt hok7; rwa [HL7.out] at this
        have HBK := hid (sub_back HV6.out HOV.out hv7 HQ2.out hlt7 HLTA.out hc7 hq0)
        have HLT2 : Hid (val A2 < val (R2.take lb.length)) := hid (by
          have h1 := HBK.out
          have h2 := HLT.out
          obtain ⟨p, rfl⟩ : ∃ p, q = p + 1 := ⟨q - 1, by omega⟩
          rw [Nat.add_mul, Nat.one_mul] at h2
          rw [Nat.add_sub_cancel] at h1
          omega)
        have HNX := hid (divAt_step (q := q - 1) HD.out hle HL2.out HVVle.out HBK.out HLT2.out hok7 HL7.out (by omega) (by omega) (by omega) (by omega) hr7 hrv7 hrq7 hW7)
        have hzq : w7.cell? ⟨w3.heap.size, j, none⟩ = some (.int .u32 ((Q.getD j 0 : Nat) : Int)) := hrq7.cell j (by rw [HD.out.lq]; omega)
        have hfq := hrq7.frozen j
        have e1 : ((q - 1 : Nat) : Int) = (q : Int) - 1 := by omega
        rw [e1] at HNX
        clear hr7 hl7 hok7 hv7 hc7 hg7 hlt7 hrv7 hrq7 hrv6 hrq6 hr6 e1
        go_wp2
        go_roundw
        case rel => exact ⟨j, _, _, by go_num, HNX.out⟩
        case measure => simp [intOf]
      · have hbv : bv = false := by rw [HBV.out]; simp [ho1]
        subst hbv
        have hov0 : ov = 0 := by omega
        have HBK : Hid (val ((C.drop j).take (lb.length + 1)) = val A1 + q * val (R2.take lb.length)) := hid (by
          have := HV6.out
          rw [hov0, Nat.mul_zero, Nat.add_zero] at this
          exact this)
        have HLT2 : Hid (val A1 < val (R2.take lb.length)) := hid (by
          have h1 := HBK.out
          have h2 := HQ1.out
          rw [Nat.add_mul, Nat.one_mul] at h2
          omega)
        have HNX := hid (divAt_step (q := q) HD.out hle HL2.out HVVle.out HBK.out HLT2.out hok6 HL6.out (by omega) (by omega) (by omega) (by omega) hr6 hrv6 hrq6 hW6)
        have hzq : w6.cell? ⟨w3.heap.size, j, none⟩ = some (.int .u32 ((Q.getD j 0 : Nat) : Int)) := hrq6.cell j (by rw [HD.out.lq]; omega)
        have hfq := hrq6.frozen j
        clear hrv6 hrq6 hr6 hov0 ho1 hov
        go_wp2
        go_roundw
        case rel => exact ⟨j, _, _, by go_num, HNX.out⟩
        case measure => simp [intOf]

set_option maxHeartbeats 1600000 in
theorem divLimbs_long (W : World) (ao : Option Addr) (ca : Nat) (la : List Nat) (bo : Option Addr) (cb : Nat) (lb : List Nat) (ha : SlAt W ao ca la) (hb : SlAt W bo cb lb) (hcb : canon lb) (hN : la.length ≤ 999999) (hlt : ¬ la.length < lb.length) (h1 : 2 ≤ lb.length) :
    Calls Try.prog 106 #[.slice ao la.length ca, .slice bo lb.length cb] W (DivPost W la lb) := by
  have hca := ha.2.2.1
  have hcb2 := hb.2.2.1
  have hla := ha.2.1
  have hlb := hb.2.1
  unfold maxLen at hca hcb2
  go_enter Try.func106, Try.ntmps106
  go_wp2_with fail
  refine (divLong_any _ ao ca la bo cb lb ha hb hcb h1 (by omega) hN).mono ?_
  rintro e w' ⟨qa, qn, qc, ra, rn, rc, q, r, rfl, h⟩
  have HH := hid h
  clear h
  go_wp2
  go_ret2
  exact ⟨qa, qn, qc, ra, rn, rc, q, r, rfl, HH.out⟩

theorem divSaid_all : DivSaid 999999 999999 := by
  intro W ao ca la bo cb lb ha hb hca hcb hne hN hM
  by_cases hlt : la.length < lb.length
  · exact divLimbs_less W ao ca la bo cb lb ha hb hcb (by omega) hlt
  · by_cases h1 : lb.length = 1
    · exact divLimbs_one W ao ca la bo cb lb ha hb hcb (by omega) hlt h1
    · exact divLimbs_long W ao ca la bo cb lb ha hb hcb hN hlt (by omega)

end Go.Proofs.Ytalblhcfkfockaa
