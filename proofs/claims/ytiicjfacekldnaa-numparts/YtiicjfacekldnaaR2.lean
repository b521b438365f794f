/-
  Walks: the document's own sums of limbs.
-/
import Derived.Test.YtiicjfacekldnaaR1
namespace Go.Proofs.Ytiicjfacekldnaa
open Go.RowKit Lm
set_option linter.unusedSimpArgs false
set_option linter.unusedVariables false
set_option maxRecDepth 100000

/-- Limbs that the document's answer has made: without noughts on top. -/
def RMade (W : World) (L V : Nat) (e : Ending) (w' : World) : Prop :=
  ∃ ao cap k l, e = .returned (.slice ao k cap) ∧ Hid (k = l.length) ∧ SlAt w' ao cap l ∧ From W.heap.size ao ∧ canon l ∧ l.length ≤ L ∧ val l = V ∧ Below W.heap.size W w'

theorem val_take_next (l : List Nat) (k : Nat) : val (l.take (k + 1)) = val (l.take k) + pw k * l.getD k 0 := by
  by_cases h : k < l.length
  · exact val_take_succ l k h
  · rw [List.take_of_length_le (by omega), List.take_of_length_le (by omega), List.getD_eq_getElem?_getD, List.getElem?_eq_none (by omega)]
    simp
theorem radd_step {A B O : List Nat} {k c s c' : Nat} (hO : O.length = k) (hv : val O + pw k * c = val (A.take k) + val (B.take k)) (hs : s + 4294967296 * c' = c + A.getD k 0 + B.getD k 0) :
    val (O ++ [s]) + pw (k + 1) * c' = val (A.take (k + 1)) + val (B.take (k + 1)) := by
  rw [val_append, hO, val_take_next, val_take_next, pw_succ_mul]
  have e : val [s] = s := by simp [val]
  rw [e]
  have h1 := congrArg (pw k * ·) hs
  simp only [Nat.mul_add] at h1
  omega
theorem getD_out {l : List Nat} {k : Nat} (h : ¬ k < l.length) : l.getD k 0 = 0 := by
  rw [List.getD_eq_getElem?_getD, List.getElem?_eq_none (by omega)]; rfl
theorem u_snoc (O : List Nat) (t : Int) (s : Nat) (h : t = (s : Int)) : U O ++ [.int .u32 t] = U (O ++ [s]) := by subst h; simp [U]

/-- What stands at the head of a round of add. -/
def AddRel (w : World) (A B : List Nat) (ov cv iv : Value) (wr : World) : Prop :=
  ∃ (k c : Nat) (O : List Nat), iv = .int .i64 (k : Int) ∧ cv = .int .u64 (c : Int) ∧ c ≤ 1 ∧ O.length = k ∧ k ≤ A.length + B.length + 1 ∧ (A.length < k → B.length < k → c = 0) ∧ (k ≤ A.length ∨ k ≤ B.length ∨ c = 0) ∧ (k ≤ A.length + 1 ∨ k ≤ B.length + 1) ∧
    wr.ownsRow w.heap.size 75 1 ov O.length (U O) ∧ ok O ∧ val O + pw k * c = val (A.take k) + val (B.take k) ∧ Below w.heap.size w wr

set_option maxHeartbeats 3200000 in
theorem radd_any (w : World) (ao : Option Addr) (ca : Nat) (A : List Nat) (bo : Option Addr) (cb : Nat) (B : List Nat) (ha : SlAt w ao ca A) (hb : SlAt w bo cb B) (hN : A.length ≤ 1000000) (hM : B.length ≤ 1000000) :
    Calls Try.prog 117 #[.slice ao A.length ca, .slice bo B.length cb] w (RMade w (A.length + B.length + 1) (val A + val B)) := by
  have ha3 := ha.2.2.1
  have hb3 := hb.2.2.1
  unfold maxLen at ha3 hb3
  have hla := ha.2.1
  have hlb := hb.2.1
  obtain ⟨i0, hi, hz0, hz1, hz2⟩ := info_parts Try.info32
  go_enter Try.func117, Try.ntmps117
  go_wp2
  go_loopw [5, 6, 7] (fun ov cv iv wr => AddRel w A B ov cv iv wr) (fun ov cv iv wr => A.length + B.length + 3 - (intOf iv).toNat)
  case atStart => exact ⟨0, 0, [], rfl, rfl, by omega, rfl, by omega, by omega, by omega, by omega, World.ownsRow_nil _ _ _ _, ok_nil, by simp [val], Below.refl _ _⟩
  case round =>
    obtain ⟨k, c, O, rfl, rfl, hc, hO, hk, hx1, hx2, hx3, hown, hokO, hv, hbw⟩ := hrel
    have HO := hid hO
    have HV := hid hv
    have HX1 := hid hx1
    clear hv hO hx1
    by_cases hgo : k < A.length ∨ k < B.length ∨ 0 < c
    · obtain ⟨x, hxe⟩ : ∃ x, x = A.getD k 0 := ⟨_, rfl⟩
      obtain ⟨y, hye⟩ : ∃ y, y = B.getD k 0 := ⟨_, rfl⟩
      have hxb := ok_getD ha.1 k
      have hyb := ok_getD hb.1 k
      rw [← hxe] at hxb
      rw [← hye] at hyb
      have hcx : k < A.length → ∃ b off, ao = some ⟨b, off, none⟩ ∧ wr.cell? ⟨b, off + k, none⟩ = some (.int .u32 (x : Int)) := by
        intro h
        rcases ha.2.2.2 with ⟨_, _⟩ | ⟨b, off, rfl, hlt, hcl⟩
        · omega
        · exact ⟨b, off, rfl, by rw [hxe]; exact (hbw.cell (p := ⟨b, off + k, none⟩) hlt).trans (hcl k h)⟩
      have hcy : k < B.length → ∃ b off, bo = some ⟨b, off, none⟩ ∧ wr.cell? ⟨b, off + k, none⟩ = some (.int .u32 (y : Int)) := by
        intro h
        rcases hb.2.2.2 with ⟨_, _⟩ | ⟨b, off, rfl, hlt, hcl⟩
        · omega
        · exact ⟨b, off, rfl, by rw [hye]; exact (hbw.cell (p := ⟨b, off + k, none⟩) hlt).trans (hcl k h)⟩
      have HX := hid hxe
      have HY := hid hye
      clear hxe hye
      have hkO : O.length ≤ 3000000 := by rw [HO.out]; omega
      by_cases hA : k < A.length
      · obtain ⟨b1, o1, rfl, hc1⟩ := hcx hA
        by_cases hB : k < B.length
        · obtain ⟨b2, o2, rfl, hc2⟩ := hcy hB
          clear hcx hcy
          go_wp2_with (at_builtin; go_must (refine wpList_append_own _ rfl _ _ 22 rfl w.heap.size 75 i0 (.int .u32 0) 1 4 Try.underlying22 hi hz0 hz1 hz2 rfl (by decide) _ _ _ rfl (hown.alloc _) ⟨wr.heap.size, 0, none⟩ 1 1 [.int .u32 (((c : Int) + x + y) % 4294967296)] rfl rfl ?_ ?_ ?_ ?_ ?_ ?_))
          · intro q u hq
            match q, hq with
            | 0, hq => simp at hq; subst hq; simp [Addr.add]
          · intro u hu; simp at hu; subst hu; rfl
          · unfold maxLen; omega
          · omega
          · have := hbw.size; simp; omega
          · intro v' w5 hown5 hgrow _
            have hb5 : Below w.heap.size w w5 := (hbw.alloc hbw.size _).grown hgrow (by simp; have := hbw.size; omega) (fun q e => (hown.lt _ e).1)
            rw [u_snoc O _ ((c + x + y) % 4294967296) (by omega)] at hown5
            have HO5 := hid hown5
            clear hown5 hgrow hown
            go_wp2
            go_roundw
            case rel =>
              refine ⟨k + 1, (c + x + y) / 4294967296, O ++ [(c + x + y) % 4294967296], by go_num, by go_num, by omega, by rw [List.length_append, HO.out]; rfl, by omega, by omega, by omega, by omega, by rw [List.length_append]; exact HO5.out, ok_append.2 ⟨hokO, by rw [ok_cons]; exact ⟨Nat.mod_lt _ (by omega), ok_nil⟩⟩, ?_, hb5⟩
              exact radd_step HO.out HV.out (by rw [← HX.out, ← HY.out]; omega)
            case measure => simp [intOf]; omega
        · have hy0 : y = 0 := by rw [HY.out]; exact getD_out hB
          have HY0 := hid hy0
          clear hy0
          clear hcx hcy
          go_wp2_with (at_builtin; go_must (refine wpList_append_own _ rfl _ _ 22 rfl w.heap.size 75 i0 (.int .u32 0) 1 4 Try.underlying22 hi hz0 hz1 hz2 rfl (by decide) _ _ _ rfl (hown.alloc _) ⟨wr.heap.size, 0, none⟩ 1 1 [.int .u32 (((c : Int) + x) % 4294967296)] rfl rfl ?_ ?_ ?_ ?_ ?_ ?_))
          · intro q u hq
            match q, hq with
            | 0, hq => simp at hq; subst hq; simp [Addr.add]
          · intro u hu; simp at hu; subst hu; rfl
          · unfold maxLen; omega
          · omega
          · have := hbw.size; simp; omega
          · intro v' w5 hown5 hgrow _
            have hb5 : Below w.heap.size w w5 := (hbw.alloc hbw.size _).grown hgrow (by simp; have := hbw.size; omega) (fun q e => (hown.lt _ e).1)
            rw [u_snoc O _ ((c + x) % 4294967296) (by omega)] at hown5
            have HO5 := hid hown5
            clear hown5 hgrow hown
            go_wp2
            go_roundw
            case rel =>
              refine ⟨k + 1, (c + x) / 4294967296, O ++ [(c + x) % 4294967296], by go_num, by go_num, by omega, by rw [List.length_append, HO.out]; rfl, by omega, by omega, by omega, by omega, by rw [List.length_append]; exact HO5.out, ok_append.2 ⟨hokO, by rw [ok_cons]; exact ⟨Nat.mod_lt _ (by omega), ok_nil⟩⟩, ?_, hb5⟩
              exact radd_step HO.out HV.out (by rw [← HX.out, ← HY.out, HY0.out]; omega)
            case measure => simp [intOf]; omega
      · have hx0 : x = 0 := by rw [HX.out]; exact getD_out hA
        have HX0 := hid hx0
        clear hx0
        by_cases hB : k < B.length
        · obtain ⟨b2, o2, rfl, hc2⟩ := hcy hB
          clear hcx hcy
          go_wp2_with (at_builtin; go_must (refine wpList_append_own _ rfl _ _ 22 rfl w.heap.size 75 i0 (.int .u32 0) 1 4 Try.underlying22 hi hz0 hz1 hz2 rfl (by decide) _ _ _ rfl (hown.alloc _) ⟨wr.heap.size, 0, none⟩ 1 1 [.int .u32 (((c : Int) + y) % 4294967296)] rfl rfl ?_ ?_ ?_ ?_ ?_ ?_))
          · intro q u hq
            match q, hq with
            | 0, hq => simp at hq; subst hq; simp [Addr.add]
          · intro u hu; simp at hu; subst hu; rfl
          · unfold maxLen; omega
          · omega
          · have := hbw.size; simp; omega
          · intro v' w5 hown5 hgrow _
            have hb5 : Below w.heap.size w w5 := (hbw.alloc hbw.size _).grown hgrow (by simp; have := hbw.size; omega) (fun q e => (hown.lt _ e).1)
            rw [u_snoc O _ ((c + y) % 4294967296) (by omega)] at hown5
            have HO5 := hid hown5
            clear hown5 hgrow hown
            go_wp2
            go_roundw
            case rel =>
              refine ⟨k + 1, (c + y) / 4294967296, O ++ [(c + y) % 4294967296], by go_num, by go_num, by omega, by rw [List.length_append, HO.out]; rfl, by omega, by omega, by omega, by omega, by rw [List.length_append]; exact HO5.out, ok_append.2 ⟨hokO, by rw [ok_cons]; exact ⟨Nat.mod_lt _ (by omega), ok_nil⟩⟩, ?_, hb5⟩
              exact radd_step HO.out HV.out (by rw [← HX.out, ← HY.out, HX0.out]; omega)
            case measure => simp [intOf]; omega
        · have hy0 : y = 0 := by rw [HY.out]; exact getD_out hB
          have HY0 := hid hy0
          have hcc : (0 : Int) < (c : Int) := by omega
          clear hy0
          clear hcx hcy
          go_wp2_with (at_builtin; go_must (refine wpList_append_own _ rfl _ _ 22 rfl w.heap.size 75 i0 (.int .u32 0) 1 4 Try.underlying22 hi hz0 hz1 hz2 rfl (by decide) _ _ _ rfl (hown.alloc _) ⟨wr.heap.size, 0, none⟩ 1 1 [.int .u32 (c : Int)] rfl rfl ?_ ?_ ?_ ?_ ?_ ?_))
          · intro q u hq
            match q, hq with
            | 0, hq => simp at hq; subst hq; simp [Addr.add]
          · intro u hu; simp at hu; subst hu; rfl
          · unfold maxLen; omega
          · omega
          · have := hbw.size; simp; omega
          · intro v' w5 hown5 hgrow _
            have hb5 : Below w.heap.size w w5 := (hbw.alloc hbw.size _).grown hgrow (by simp; have := hbw.size; omega) (fun q e => (hown.lt _ e).1)
            rw [u_snoc O _ ((c) % 4294967296) (by omega)] at hown5
            have HO5 := hid hown5
            clear hown5 hgrow hown
            go_wp2
            go_roundw
            case rel =>
              refine ⟨k + 1, (c) / 4294967296, O ++ [(c) % 4294967296], by go_num, by go_num, by omega, by rw [List.length_append, HO.out]; rfl, by omega, by omega, by omega, by omega, by rw [List.length_append]; exact HO5.out, ok_append.2 ⟨hokO, by rw [ok_cons]; exact ⟨Nat.mod_lt _ (by omega), ok_nil⟩⟩, ?_, hb5⟩
              exact radd_step HO.out HV.out (by rw [← HX.out, ← HY.out, HX0.out, HY0.out]; omega)
            case measure => simp [intOf]; omega
    · have hc0 : c = 0 := by omega
      subst hc0
      have hA : ¬ k < A.length := by omega
      have hB : ¬ k < B.length := by omega
      have HV2 : Hid (val O = val A + val B) := hid (by have := HV.out; rw [List.take_of_length_le (by omega), List.take_of_length_le (by omega)] at this; simpa using this)
      obtain ⟨ao2, cap2, rfl, hfr⟩ := own_shape hown
      have hs := own_slAt hown hokO
      have hkO : O.length ≤ 3000000 := by rw [HO.out]; omega
      have hcm := hs.2.2.1
      unfold maxLen at hcm
      have Hs := hid hs
      have HF := hid hfr
      clear hown hs hfr hgo
      go_wp2_with fail
      refine (rtrim_any _ ao2 cap2 O Hs.out).mono ?_
      rintro e w3 ⟨n, rfl, rfl, hn, hcn, hvn⟩
      have HVN := hid hvn
      clear hvn
      go_wp2
      go_ret
      exact ⟨ao2, cap2, n, O.take n, rfl, (take_len hn).symm, Hs.out.take n hn, HF.out, hcn, by rw [take_len hn]; have := HO.out; omega, by rw [HVN.out, HV2.out], hbw⟩

end Go.Proofs.Ytiicjfacekldnaa
