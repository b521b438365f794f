/-
  Walks: the document's own differences of limbs.
-/
import Derived.Test.YtiicjfacekldnaaR2
namespace Go.Proofs.Ytiicjfacekldnaa
open Go.RowKit Lm
set_option linter.unusedSimpArgs false
set_option linter.unusedVariables false
set_option maxRecDepth 100000

/-- A row of the call's own, its room known: what is stored goes into its limbs. -/
theorem own_set {w : World} {base g cap : Nat} {C : List Nat} (h : w.ownsRow base 75 1 (.slice (some ⟨g, 0, none⟩) C.length cap) C.length (U C)) (i x : Nat) : (w.setCell ⟨g, i, none⟩ (.int .u32 (x : Int))).ownsRow base 75 1 (.slice (some ⟨g, 0, none⟩) (C.set i x).length cap) (C.set i x).length (U (C.set i x)) := by
  have h1 := (h.stored i (.int .u32 (x : Int))).1
  have e : U (C.set i x) = (U C).set i (.int .u32 (x : Int)) := by simp [U, List.map_set]
  rw [e, List.length_set]
  exact h1
theorem rsub_step {A B C : List Nat} {k c s c' : Nat} (hkC : k < C.length) (hkA : k < A.length) (hv : val (A.take k) + pw k * c = val (C.take k) + val (B.take k)) (hs : A.getD k 0 + 4294967296 * c' = s + B.getD k 0 + c) :
    val (A.take (k + 1)) + pw (k + 1) * c' = val ((C.set k s).take (k + 1)) + val (B.take (k + 1)) := by
  rw [take_set_succ hkC, val_take_succ A k hkA, val_take_next, pw_succ_mul]
  have h1 := congrArg (pw k * ·) hs
  simp only [Nat.mul_add] at h1
  omega

set_option maxHeartbeats 3200000 in
theorem rsub_any (w : World) (ao : Option Addr) (ca : Nat) (A : List Nat) (bo : Option Addr) (cb : Nat) (B : List Nat) (ha : SlAt w ao ca A) (hb : SlAt w bo cb B) (hN : A.length ≤ 1000000) (hle : B.length ≤ A.length) (hvv : val B ≤ val A) (hA0 : 0 < A.length) :
    Calls Try.prog 110 #[.slice ao A.length ca, .slice bo B.length cb] w (RMade w A.length (val A - val B)) := by
  have ha3 := ha.2.2.1
  have hb3 := hb.2.2.1
  unfold maxLen at ha3 hb3
  have hla := ha.2.1
  have hlb := hb.2.1
  have HVV := hid hvv
  clear hvv
  obtain ⟨i0, hi, hz0, hz1, hz2⟩ := info_parts Try.info32
  rcases ha.2.2.2 with ⟨_, _⟩ | ⟨b1, o1, rfl, hlt1, hc1⟩
  · omega
  go_enter Try.func110, Try.ntmps110
  go_wp2_with (at_builtin; go_must (refine wpList_append_own _ rfl _ _ 22 rfl w.heap.size 75 i0 (.int .u32 0) 1 4 Try.underlying22 hi hz0 hz1 hz2 rfl (by decide) (.slice (some ⟨w.heap.size, 0, none⟩) 0 0) 0 [] rfl (own_empty _ _ _ rfl (Nat.le_refl _)) ⟨b1, o1, none⟩ A.length ca (U A) rfl (by rw [u_length, Nat.mul_one]) ?_ (u_one _) (by unfold maxLen; omega) (by omega) ?_ ?_))
  · exact src_below ha (by repeat (first | exact Below.refl _ _ | refine Below.alloc ?_ ?_ _ | refine Below.setCell ?_ ?_ _ | refine Below.drew ?_ | refine below_drewN ?_ _ | (· simp) | omega | (· simp; omega) | exact Below.size (by assumption) | assumption | refine below_call ?_ (by assumption) ?_))
  · simp
  · intro v' w1 hown hgrow _
    have hb1 : Below w.heap.size w w1 := ((Below.refl _ _).alloc (Nat.le_refl _) _).grown hgrow (by simp) (by intro k e; simp [Value.ownBlock] at e; omega)
    obtain ⟨ao2, cap2, rfl, hfr⟩ := own_shape hown
    obtain ⟨g, rfl, hg⟩ : ∃ g, ao2 = some ⟨g, 0, none⟩ ∧ w.heap.size ≤ g := by
      rcases hown.2 with ⟨_, h0⟩ | ⟨g, cap', cur, h', hbg, _⟩
      · omega
      · simp only [Value.slice.injEq, true_and] at h'
        exact ⟨g, h'.1, hbg⟩
    clear hgrow hfr hc1
    go_wp2
    go_loopw [6, 7] (fun cv iv wr => ∃ (k c : Nat) (C : List Nat), k ≤ A.length ∧ iv = .int .i64 (k : Int) ∧ cv = .int .u64 (c : Int) ∧ c ≤ 1 ∧ Hid (C.length = A.length) ∧ ok C ∧ Hid (C.drop k = A.drop k) ∧ Hid (val (A.take k) + pw k * c = val (C.take k) + val (B.take k)) ∧ wr.ownsRow w.heap.size 75 1 (.slice (some ⟨g, 0, none⟩) C.length cap2) C.length (U C) ∧ Below w.heap.size w wr) (fun cv iv wr => A.length - (intOf iv).toNat)
    case atStart => exact ⟨0, 0, A, Nat.zero_le _, rfl, rfl, by omega, rfl, ha.1, rfl, by simp [val, Hid], hown, hb1⟩
    case round =>
      clear hown hb1
      obtain ⟨k, c, C, hk, rfl, rfl, hc, HL, hokC, HD, HV, hown, hbw⟩ := hrel
      by_cases hlt : k < A.length
      · have hx : wr.cell? ⟨g, k, none⟩ = some (.int .u32 ((A.getD k 0 : Nat) : Int)) := by
          rw [hown.cellAt k (by rw [HL.out]; omega), ← drop_getD HD.out]
          simp [U, List.getD_eq_getElem?_getD, show k < C.length by rw [HL.out]; omega]
        have hfz := hown.frozenAt k
        obtain ⟨x, hxe⟩ : ∃ x, x = A.getD k 0 := ⟨_, rfl⟩
        obtain ⟨y, hye⟩ : ∃ y, y = B.getD k 0 := ⟨_, rfl⟩
        have hxb := ok_getD ha.1 k
        have hyb := ok_getD hb.1 k
        rw [← hxe] at hxb hx
        rw [← hye] at hyb
        have hcy : k < B.length → ∃ b off, bo = some ⟨b, off, none⟩ ∧ wr.cell? ⟨b, off + k, none⟩ = some (.int .u32 (y : Int)) := by
          intro h
          rcases hb.2.2.2 with ⟨_, _⟩ | ⟨b, off, rfl, hlt, hcl⟩
          · omega
          · exact ⟨b, off, rfl, by rw [hye]; exact (hbw.cell (p := ⟨b, off + k, none⟩) hlt).trans (hcl k h)⟩
        have HX := hid hxe
        have HY := hid hye
        have Hown := hid hown
        clear hxe hye hown
        have hkC : k < C.length := by rw [HL.out]; exact hlt
        have HKC := hid hkC
        clear hkC
        by_cases hB : k < B.length
        · obtain ⟨b2, o2, rfl, hc2⟩ := hcy hB
          clear hcy
          by_cases hge : c + y ≤ x
          · have hge' : (c : Int) + y ≤ x := by omega
            go_wp2
            go_roundw
            case rel =>
              rw [show ((x : Int) - ((c : Int) + y)) = ((x - (c + y) : Nat) : Int) by omega]
              refine ⟨k + 1, 0, C.set k (x - (c + y)), by omega, by go_num, rfl, by omega, by rw [Hid, List.length_set]; exact HL.out, ok_set hokC _ _ (by omega), set_drop_succ HD.out, ?_, own_set Hown.out k (x - (c + y)), hbw.setCell hg _⟩
              exact rsub_step HKC.out hlt HV.out (by rw [← HX.out, ← HY.out]; omega)
            case measure => simp [intOf]; omega
          · have hge' : ¬ (c : Int) + y ≤ x := by omega
            go_wp2
            go_roundw
            case rel =>
              rw [show ((x : Int) + 4294967296 - ((c : Int) + y)) = ((x + 4294967296 - (c + y) : Nat) : Int) by omega]
              refine ⟨k + 1, 1, C.set k (x + 4294967296 - (c + y)), by omega, by go_num, rfl, by omega, by rw [Hid, List.length_set]; exact HL.out, ok_set hokC _ _ (by omega), set_drop_succ HD.out, ?_, own_set Hown.out k (x + 4294967296 - (c + y)), hbw.setCell hg _⟩
              exact rsub_step HKC.out hlt HV.out (by rw [← HX.out, ← HY.out]; omega)
            case measure => simp [intOf]; omega
        · have hy0 : y = 0 := by rw [HY.out]; exact getD_out hB
          have HY0 := hid hy0
          clear hcy hy0
          by_cases hge : c ≤ x
          · have hge' : (c : Int) ≤ x := by omega
            go_wp2
            go_roundw
            case rel =>
              rw [show ((x : Int) - (c : Int)) = ((x - c : Nat) : Int) by omega]
              refine ⟨k + 1, 0, C.set k (x - c), by omega, by go_num, rfl, by omega, by rw [Hid, List.length_set]; exact HL.out, ok_set hokC _ _ (by omega), set_drop_succ HD.out, ?_, own_set Hown.out k (x - c), hbw.setCell hg _⟩
              exact rsub_step HKC.out hlt HV.out (by rw [← HX.out, ← HY.out, HY0.out]; omega)
            case measure => simp [intOf]; omega
          · have hge' : ¬ (c : Int) ≤ x := by omega
            go_wp2
            go_roundw
            case rel =>
              rw [show ((x : Int) + 4294967296 - (c : Int)) = ((x + 4294967296 - c : Nat) : Int) by omega]
              refine ⟨k + 1, 1, C.set k (x + 4294967296 - c), by omega, by go_num, rfl, by omega, by rw [Hid, List.length_set]; exact HL.out, ok_set hokC _ _ (by omega), set_drop_succ HD.out, ?_, own_set Hown.out k (x + 4294967296 - c), hbw.setCell hg _⟩
              exact rsub_step HKC.out hlt HV.out (by rw [← HX.out, ← HY.out, HY0.out]; omega)
            case measure => simp [intOf]; omega
      · have hkA : k = A.length := by omega
        subst hkA
        have HV2 : Hid (val C = val A - val B) := hid (by
          have h1 := HV.out
          rw [List.take_length, List.take_of_length_le (show B.length ≤ A.length by omega), ← HL.out, List.take_length] at h1
          exact no_borrow hokC HL.out HVV.out (by rw [← HL.out]; exact h1))
        have hs := own_slAt hown hokC
        have hcm := hs.2.2.1
        unfold maxLen at hcm
        have Hs := hid hs
        clear hown hs
        go_wp2_with fail
        rw [← HL.out]
        refine (rtrim_any _ _ cap2 C Hs.out).mono ?_
        rintro e w3 ⟨n, rfl, rfl, hn, hcn, hvn⟩
        have HVN := hid hvn
        clear hvn
        go_wp2
        go_ret
        exact ⟨_, cap2, n, C.take n, rfl, (take_len hn).symm, Hs.out.take n hn, from_row _ _ _ hg, hcn, by rw [take_len hn]; have := HL.out; omega, by rw [HVN.out, HV2.out], hbw⟩

end Go.Proofs.Ytiicjfacekldnaa
