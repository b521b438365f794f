/-
  Walks: the document's own products of limbs.
-/
import Derived.Test.YtiicjfacekldnaaR3
namespace Go.Proofs.Ytiicjfacekldnaa
open Go.RowKit Lm
set_option linter.unusedSimpArgs false
set_option linter.unusedVariables false
set_option maxRecDepth 100000

set_option maxHeartbeats 6400000 in
theorem rmul_any (w : World) (ao : Option Addr) (ca : Nat) (A : List Nat) (bo : Option Addr) (cb : Nat) (B : List Nat) (ha : SlAt w ao ca A) (hb : SlAt w bo cb B) (hN : A.length ≤ 500000) (hM : B.length ≤ 500000) :
    Calls Try.prog 118 #[.slice ao A.length ca, .slice bo B.length cb] w (RMade w (A.length + B.length) (val A * val B)) := by
  have hca := ha.2.2.1
  have hcb := hb.2.2.1
  unfold maxLen at hca hcb
  have hla := ha.2.1
  have hlb := hb.2.1
  obtain ⟨i0, hi, hz0, hz1, hz2⟩ := info_parts Try.info32
  go_enter Try.func118, Try.ntmps118
  go_wp2_with (at_make; go_must (refine wpList_make_full _ rfl _ _ 22 rfl w.heap.size 75 i0 (.int .u32 0) 1 Try.underlying22 hi hz0 hz1 .i64 .i64 _ _ (A.length + B.length) rfl rfl (by omega) (by omega) (by rw [hz2]; omega) (by unfold maxLen; omega) (by simp) ?_); intro w1 hown hgrow; rw [made32] at hown; obtain ⟨hrow, _⟩ := rowAt_of_own hown; have hb1 : Below w.heap.size w w1 := (Below.refl _ _).grown hgrow (Nat.le_refl _) (by simp); clear hown hgrow)
  go_loopw [6] (fun i wr => ∃ k : Nat, k ≤ A.length ∧ i = .int .i64 (k : Int) ∧ Hid (MulRow wr w.heap.size k B.length A.length (val (A.take k) * val B)) ∧ Below w.heap.size w wr) (fun i wr => A.length - (intOf i).toNat)
  case atStart =>
    refine ⟨0, Nat.zero_le _, rfl, ⟨List.replicate B.length 0, by simp, ok_replicate _, by simp [val, val_replicate], ?_⟩, hb1⟩
    have e : List.replicate B.length 0 ++ List.replicate (A.length - 0) 0 = List.replicate (A.length + B.length) 0 := by simp [Nat.add_comm]
    rw [e]; exact hrow
  case round =>
    clear hrow hb1
    obtain ⟨i, hiA, rfl, HR, hbw⟩ := hrel
    by_cases hlt : i < A.length
    · rcases ha.2.2.2 with ⟨_, _⟩ | ⟨b1, o1, rfl, hltb, hcb'⟩
      · omega
      have hxb := ok_getD ha.1 i
      have HT := hid (val_take_succ A i hlt)
      have hxc := hcb' i hlt
      obtain ⟨x, hxe⟩ : ∃ x, x = A.getD i 0 := ⟨_, rfl⟩
      rw [← hxe] at hxb HT hxc
      clear hxe hcb'
      obtain ⟨R, hRl, hRok, hRv, hRr⟩ := HR.out
      obtain ⟨P, hPe⟩ : ∃ P, P = R.take i := ⟨_, rfl⟩
      obtain ⟨S, hSe⟩ : ∃ S, S = R.drop i := ⟨_, rfl⟩
      have hP : P.length = i := by rw [hPe]; simp; omega
      have hS : S.length = B.length := by rw [hSe]; simp; omega
      have hokP : ok P := by rw [hPe]; exact ok_take hRok i
      have hokS : ok S := by rw [hSe]; exact ok_drop hRok i
      have hPS : val (P ++ S) = val (A.take i) * val B := by rw [hPe, hSe, List.take_append_drop]; exact hRv
      have hr0 : RowAt wr w.heap.size (P ++ (S ++ List.replicate (A.length - i) 0)) := by rw [hPe, hSe, ← List.append_assoc, List.take_append_drop]; exact hRr
      have HP := hid hP
      have HS := hid hS
      have HPS := hid hPS
      clear hRl hRok hRv hRr HR hPe hSe hP hS hPS
      go_wp2
      go_loopw [7, 8] (fun cv kv wr => ∃ (k c : Nat) (C : List Nat), k ≤ B.length ∧ kv = .int .i64 (k : Int) ∧ cv = .int .u64 (c : Int) ∧ c < 4294967296 ∧ Hid (C.length = S.length) ∧ ok C ∧ Hid (C.drop k = S.drop k) ∧ Hid (val (C.take k) + pw k * c = val (S.take k) + x * val (B.take k)) ∧ RowAt wr w.heap.size (P ++ (C ++ List.replicate (A.length - i) 0)) ∧ Below w.heap.size w wr) (fun cv kv wr => B.length - (intOf kv).toNat)
      case atStart => exact ⟨0, 0, S, Nat.zero_le _, rfl, rfl, by omega, rfl, hokS, rfl, by simp [val, Hid], hr0, hbw⟩
      case round =>
        clear hr0 hbw
        obtain ⟨k, c, C, hk, rfl, rfl, hc, HL, hokC, HD, HV, hrw, hbw⟩ := hrel
        by_cases hltk : k < B.length
        · rcases hb.2.2.2 with ⟨_, _⟩ | ⟨b2, o2, rfl, hltb2, hcb2⟩
          · omega
          have hx := (hbw.cell (p := ⟨b1, o1 + i, none⟩) hltb).trans hxc
          have hy := (hbw.cell (p := ⟨b2, o2 + k, none⟩) hltb2).trans (hcb2 k hltk)
          have hz : wr.cell? ⟨w.heap.size, i + k, none⟩ = some (.int .u32 ((S.getD k 0 : Nat) : Int)) := by
            rw [hrw.cellO HP.out.symm (by rw [HL.out, HS.out]; omega), drop_getD HD.out]
          have hfz := hrw.frozen (i + k)
          have hzb := ok_getD hokS k
          have hyb := ok_getD hb.1 k
          obtain ⟨z, hze⟩ : ∃ z, z = S.getD k 0 := ⟨_, rfl⟩
          obtain ⟨y, hye⟩ : ∃ y, y = B.getD k 0 := ⟨_, rfl⟩
          rw [← hze] at hz hzb
          rw [← hye] at hy hyb
          have HZ := hid hze
          have HY := hid hye
          have hm := mul_bound hxb hyb
          obtain ⟨m, hme⟩ : ∃ m, m = x * y := ⟨_, rfl⟩
          rw [← hme] at hm
          have HM := hid hme
          have hmi : (x : Int) * (y : Int) = (m : Int) := by rw [hme]; simp
          have hik : (i : Int) + k < (A.length : Int) + B.length := by omega
          clear hze hye hcb2 hme
          go_wp2
          go_quiet (fail)
          go_wp2
          go_roundw
          case rel =>
            have e1 : ((m : Int) + z + c) % 4294967296 = (((m + z + c) % 4294967296 : Nat) : Int) := by omega
            rw [e1]
            have hrw2 : RowAt (wr.drewN nq) w.heap.size (P ++ (C ++ List.replicate (A.length - i) 0)) := hrw
            refine ⟨k + 1, (m + z + c) / 4294967296, C.set k ((m + z + c) % 4294967296), by omega, by go_num, by go_num, by omega, by rw [Hid, List.length_set]; exact HL.out, ok_set hokC _ _ (Nat.mod_lt _ (by omega)), set_drop_succ HD.out, ?_, hrw2.setO HP.out.symm (by rw [HL.out, HS.out]; omega), (below_drewN hbw nq).setCell (by simp) _⟩
            exact times_step (by rw [HL.out, HS.out]; omega) (by rw [HS.out]; omega) hltk HV.out (by rw [← HZ.out, ← HY.out, ← HM.out]; omega)
          case measure => simp [intOf]; omega
        · have hkB : k = B.length := by omega
          subst hkB
          have HV2 : Hid (val C + pw B.length * c = val S + x * val B) := hid (by
            have := HV.out
            rw [List.take_length, ← HS.out, List.take_length, ← HL.out, List.take_length] at this
            rw [← HS.out, ← HL.out]
            exact this)
          have hz : wr.cell? ⟨w.heap.size, i + B.length, none⟩ = some (.int .u32 ((0 : Nat) : Int)) := by
            rw [hrw.cell (i + B.length) (by simp; have := HP.out; have := HL.out; have := HS.out; omega)]
            have e2 : (P ++ (C ++ List.replicate (A.length - i) 0)).getD (i + B.length) 0 = 0 := by
              have := HP.out; have := HL.out; have := HS.out
              rw [List.getD_eq_getElem?_getD, List.getElem?_append_right (by omega), List.getElem?_append_right (by omega), List.getElem?_replicate]
              rw [if_pos (by omega)]; rfl
            rw [e2]
          have hfz := hrw.frozen (i + B.length)
          have HN : Hid (MulRow (wr.setCell ⟨w.heap.size, i + B.length, none⟩ (.int .u32 (c : Int))) w.heap.size (i + 1) B.length A.length (val (A.take (i + 1)) * val B)) := by
            have q1 := HP.out
            have q2 := HL.out
            have q3 := HS.out
            refine ⟨P ++ (C ++ [c]), by simp; omega, ok_append.2 ⟨hokP, ok_append.2 ⟨hokC, by rw [ok_cons]; exact ⟨hc, ok_nil⟩⟩⟩, ?_, ?_⟩
            · rw [HT.out]
              exact mul_step (S := S) q1 q3 (by omega) HPS.out HV2.out
            · have h3 := hrw.set (i + B.length) c
              rw [List.set_append_right _ _ (by omega), List.set_append_right _ _ (by omega)] at h3
              have e3 : (List.replicate (A.length - i) 0).set (i + B.length - P.length - C.length) c = c :: List.replicate (A.length - (i + 1)) 0 := by
                rw [show i + B.length - P.length - C.length = 0 by omega, show A.length - i = (A.length - (i + 1)) + 1 by omega, List.replicate_succ]
                rfl
              rw [e3] at h3
              have e4 : P ++ (C ++ [c]) ++ List.replicate (A.length - (i + 1)) 0 = P ++ (C ++ c :: List.replicate (A.length - (i + 1)) 0) := by simp
              rw [e4]
              exact h3
          go_wp2
          go_roundw
          case rel => exact ⟨i + 1, by omega, by go_num, HN, hbw.setCell (by simp) _⟩
          case measure => simp [intOf]; omega
    · have hkA : i = A.length := by omega
      subst hkA
      obtain ⟨R, hRl, hRok, hRv, hRr⟩ := HR.out
      rw [Nat.sub_self, List.replicate_zero, List.append_nil] at hRr
      rw [List.take_length] at hRv
      have hs := hRr.whole hRok (by omega)
      have Hs := hid hs
      have HRL := hid hRl
      have HRV := hid hRv
      clear hRl hRok hRv hRr HR hs
      go_wp2_with fail
      rw [← HRL.out]
      refine (rtrim_any _ _ R.length R Hs.out).mono ?_
      rintro e w3 ⟨n, rfl, rfl, hn, hcn, hvn⟩
      have HVN := hid hvn
      clear hvn
      go_wp2
      go_ret
      exact ⟨_, R.length, n, R.take n, by rw [HRL.out]; rfl, (take_len hn).symm, Hs.out.take n hn, from_row _ _ _ (Nat.le_refl _), hcn, by rw [take_len hn]; have := HRL.out; omega, by rw [HVN.out, HRV.out], hbw⟩

end Go.Proofs.Ytiicjfacekldnaa
