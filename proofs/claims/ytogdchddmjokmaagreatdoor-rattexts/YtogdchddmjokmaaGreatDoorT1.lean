/-
  Walks: the document's own quotient by a small number.
-/
import Derived.Test.YtogdchddmjokmaaGreatDoorRX
namespace Go.Proofs.YtogdchddmjokmaaGreatDoor
open Go.RowKit Lm
set_option linter.unusedSimpArgs false
set_option linter.unusedVariables false
set_option maxRecDepth 100000

set_option maxHeartbeats 1600000 in
theorem rsmall_any (w : World) (ao : Option Addr) (cap : Nat) (A : List Nat) (d : Nat) (ha : SlAt w ao cap A) (hl : A.length ≤ 1000000) (hd0 : 0 < d) (hd : d < 4294967296) (di : Int) (hdi : di = (d : Int)) :
    Calls Tryz.prog 50 #[.slice ao A.length cap, .int .u64 di] w fun e w' => ∃ (k c : Nat) (Q : List Nat) (r : Nat), e = .returned (.tuple #[.slice (some ⟨w.heap.size, 0, none⟩) k c, .int .u64 (r : Int)]) ∧ k = Q.length ∧ SlAt w' (some ⟨w.heap.size, 0, none⟩) c Q ∧ (∃ cs, w'.heap[w.heap.size]? = some (.cells cs 55 (0, 0))) ∧ canon Q ∧ Q.length ≤ A.length ∧ val A = val Q * d + r ∧ r < d ∧ Below w.heap.size w w' := by
  subst hdi
  obtain ⟨i0, hi, hz0, hz1, hz2⟩ := info_parts Tryz.info32
  have hcm := ha.2.2.1
  unfold maxLen at hcm
  have hlc := ha.2.1
  go_enter Tryz.func50, Tryz.ntmps50
  go_wp2_with (at_make; go_must (refine wpList_make_full _ rfl _ _ 22 rfl w.heap.size 55 i0 (.int .u32 0) 1 Tryz.underlying22 hi hz0 hz1 .i64 .i64 _ _ A.length rfl rfl (by omega) (by omega) (by rw [hz2]; omega) (by unfold maxLen; omega) (by simp) ?_); intro w1 hown hgrow; rw [made32] at hown; obtain ⟨hrow, _⟩ := rowAt_of_own hown; have hb1 : Below w.heap.size w w1 := (Below.refl _ _).grown hgrow (Nat.le_refl _) (by simp); clear hown hgrow)
  go_loopw [7, 8] (fun s i wr => ∃ (k r : Nat) (C : List Nat), k ≤ A.length ∧ i = .int .i64 ((k : Int) - 1) ∧ s = .int .u64 (r : Int) ∧ r < d ∧ Hid (C.length = A.length) ∧ ok C ∧ Hid (val (A.drop k) = val (C.drop k) * d + r) ∧ RowAt wr w.heap.size C ∧ Below w.heap.size w wr) (fun s i wr => (intOf i + 1).toNat)
  case atStart => exact ⟨A.length, 0, List.replicate A.length 0, Nat.le_refl _, rfl, rfl, hd0, by simp [Hid], ok_replicate _, by simp [val, Hid], hrow, hb1⟩
  case round =>
    clear hrow hb1
    obtain ⟨k, r, C, hk, rfl, rfl, hr, HL, hokC, HV, hrw, hbw⟩ := hrel
    by_cases hk0 : k = 0
    · subst hk0
      have hs := hrw.whole hokC (by rw [HL.out]; omega)
      have Hs := hid hs
      have HH := hid hrw.heap
      clear hs hrw
      have HB := hid hbw
      clear hbw
      rw [← HL.out]
      go_wp2_with fail
      refine (rtrim_any _ _ C.length C Hs.out).mono ?_
      rintro e w3 ⟨n, rfl, rfl, hn, hcn, hvn⟩
      have HVN := hid hvn
      have HCN := hid hcn
      clear hvn hcn
      go_wp2
      refine bodyPost_ret (v := .tuple #[.slice (some ⟨w.heap.size, 0, none⟩) n C.length, .int .u64 (r : Int)]) ?_ rfl ?_
      · simp [results, Tryz.results50, go_sem]
      · refine ⟨n, C.length, C.take n, r, rfl, (take_len hn).symm, Hs.out.take n hn, ⟨_, HH.out⟩, HCN.out, by rw [take_len hn]; have := HL.out; omega, ?_, hr, HB.out⟩
        have h1 := HV.out
        simp only [List.drop_zero] at h1
        rw [HVN.out]
        exact h1
    · rcases ha.2.2.2 with ⟨h0, _⟩ | ⟨b1, o1, rfl, hltb, hcb⟩
      · omega
      have hx := (hbw.cell (p := ⟨b1, o1 + (k - 1), none⟩) hltb).trans (hcb (k - 1) (by omega))
      obtain ⟨z, hz⟩ : ∃ z, wr.cell? ⟨w.heap.size, k - 1, none⟩ = some z := ⟨_, hrw.cell (k - 1) (by rw [HL.out]; omega)⟩
      have hfz := hrw.frozen (k - 1)
      have hxb := ok_getD ha.1 (k - 1)
      have HD := hid (drop_val A (k - 1) (by omega))
      obtain ⟨x, hxe⟩ : ∃ x, x = A.getD (k - 1) 0 := ⟨_, rfl⟩
      rw [← hxe] at hx hxb HD
      clear hxe hcb
      have HT1 := hid (dv_t r x d hr hd hxb)
      have HQ := hid (dv_q r x d hr hxb)
      have hq := dv_lt r x d hr hxb
      go_wp2
      go_round
      case rel =>
        rw [HT1.out, HQ.out]
        refine ⟨k - 1, (r * 4294967296 + x) % d, C.set (k - 1) ((r * 4294967296 + x) / d), by omega, by go_num, by rw [Int.ofNat_tmod], Nat.mod_lt _ hd0, by rw [Hid, List.length_set]; exact HL.out, ok_set hokC _ _ hq, ?_, hrw.set (k - 1) ((r * 4294967296 + x) / d), hbw.setCell (Nat.le_refl _) _⟩
        show val (A.drop (k - 1)) = _
        rw [HD.out, show k - 1 + 1 = k by omega, set_drop (by rw [HL.out]; omega), show k - 1 + 1 = k by omega]
        exact dv_step _ d r x _ _ _ rfl hd0 rfl HV.out
      case measure => simp [intOf]; omega

end Go.Proofs.YtogdchddmjokmaaGreatDoor
