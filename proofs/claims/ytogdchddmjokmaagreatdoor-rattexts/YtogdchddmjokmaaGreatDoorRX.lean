/-
  Walks: the document's own order, sums and differences of limbs.
  Walks: the document's own sums of limbs.
  Walks: the document's own differences of limbs.
  Walks: the document's own products of limbs.
  Walks: the document's own Neg, Add, Sub, Mul, Cmp.
  Walks: the document's own Add.
  Walks: the document's own Sub, Cmp.
  Walks: the document's own twice.
  Mathematics: a quotient and its rest, bit by bit.
  Walks: the document's own quotients of limbs.
  Walks: the document's own Gcd and Div.
  Walks: the document's own Div, by any number but nought.
-/
import Derived.Test.YtogdchddmjokmaaGreatDoorWC
import Derived.Test.YtogdchddmjokmaaGreatDoorWF
import Derived.Test.YtogdchddmjokmaaGreatDoorWE

namespace Go.Proofs.YtogdchddmjokmaaGreatDoor
open Go.RowKit Lm
set_option linter.unusedSimpArgs false
set_option linter.unusedVariables false
set_option maxRecDepth 100000

set_option maxHeartbeats 1600000 in
theorem rcmp_any (w : World) (ao : Option Addr) (ca : Nat) (A : List Nat) (bo : Option Addr) (cb : Nat) (B : List Nat) (ha : SlAt w ao ca A) (hb : SlAt w bo cb B) (hca : canon A) (hcb : canon B) :
    Calls Tryz.prog 80 #[.slice ao A.length ca, .slice bo B.length cb] w fun e w' => e = .returned (.int .i64 (cmpI (val A : Int) (val B : Int))) ∧ Below w.heap.size w w' := by
  have ha3 := ha.2.2.1
  have hb3 := hb.2.2.1
  unfold maxLen at ha3 hb3
  have hla := ha.2.1
  have hlb := hb.2.1
  by_cases hl : A.length = B.length
  · by_cases h0 : B.length = 0
    · have HE : Hid (cmpI (val A : Int) (val B : Int) = 0) := hid (cmpI_eq (by rw [List.eq_nil_of_length_eq_zero h0, List.eq_nil_of_length_eq_zero (hl.trans h0)]))
      rw [hl, h0]
      clear hl
      go_enter Tryz.func80, Tryz.ntmps80
      go_wp2
      go_loop [5] (fun i => i = .int .i64 (-1)) (fun i => 0)
      case atStart => rfl
      case round =>
        subst hrel
        go_wp2
        go_ret
        exact ⟨ret_int HE.out.symm, Below.refl _ _⟩
    · rcases ha.2.2.2 with ⟨_, _⟩ | ⟨b1, o1, rfl, hlt1, hc1⟩
      · omega
      rcases hb.2.2.2 with ⟨_, _⟩ | ⟨b2, o2, rfl, hlt2, hc2⟩
      · omega
      have HL := hid hl
      rw [hl] at hc1 ⊢
      clear hl hla
      go_enter Tryz.func80, Tryz.ntmps80
      go_wp2
      go_loopw [5] (fun i wr => ∃ k : Nat, k ≤ B.length ∧ i = .int .i64 ((k : Int) - 1) ∧ Hid (A.drop k = B.drop k) ∧ Below w.heap.size w wr) (fun i wr => (intOf i + 1).toNat)
      case atStart => exact ⟨B.length, Nat.le_refl _, rfl, by rw [Hid, List.drop_length, ← HL.out, List.drop_length], Below.refl _ _⟩
      case round =>
        obtain ⟨k, hk, rfl, HD, hbw⟩ := hrel
        by_cases hk0 : k = 0
        · subst hk0
          have HE : Hid (cmpI (val A : Int) (val B : Int) = 0) := hid (cmpI_eq (by have := HD.out; simp only [List.drop_zero] at this; rw [this]))
          go_wp2
          go_ret
          exact ⟨ret_int HE.out.symm, hbw⟩
        · have hx := (hbw.cell (p := ⟨b1, o1 + (k - 1), none⟩) hlt1).trans (hc1 (k - 1) (by omega))
          have hy := (hbw.cell (p := ⟨b2, o2 + (k - 1), none⟩) hlt2).trans (hc2 (k - 1) (by omega))
          have hk1 : (0 : Int) ≤ (k : Int) - 1 := by omega
          have hk2 : (k : Int) - 1 < (B.length : Int) := by omega
          obtain ⟨x, hxe⟩ : ∃ x, x = A.getD (k - 1) 0 := ⟨_, rfl⟩
          obtain ⟨y, hye⟩ : ∃ y, y = B.getD (k - 1) 0 := ⟨_, rfl⟩
          rw [← hxe] at hx
          rw [← hye] at hy
          have HX := hid hxe
          have HY := hid hye
          clear hxe hye hc1 hc2
          by_cases hlt : x < y
          · have hd1 : (x : Int) < (y : Int) := by omega
            have HC := hid (cmp_top (A := A) (B := B) (k := k - 1) ha.1 hb.1 HL.out (by rw [HL.out]; omega) (by rw [show k - 1 + 1 = k by omega]; exact HD.out) (by rw [← HX.out, ← HY.out]; omega))
            rw [← HX.out, ← HY.out, cmpI_lt hd1] at HC
            go_wp2
            go_quiet (fail)
            go_wp2
            go_ret
            exact ⟨ret_int HC.out, (by repeat (first | exact Below.refl _ _ | refine Below.alloc ?_ ?_ _ | refine Below.setCell ?_ ?_ _ | refine Below.drew ?_ | refine below_drewN ?_ _ | (· simp) | omega | (· simp; omega) | exact Below.size (by assumption) | assumption | refine below_call ?_ (by assumption) ?_))⟩
          · have hd1 : ¬ (x : Int) < (y : Int) := by omega
            by_cases hgt : y < x
            · have hd2 : (y : Int) < (x : Int) := by omega
              have HC := hid (cmp_top (A := A) (B := B) (k := k - 1) ha.1 hb.1 HL.out (by rw [HL.out]; omega) (by rw [show k - 1 + 1 = k by omega]; exact HD.out) (by rw [← HX.out, ← HY.out]; omega))
              rw [← HX.out, ← HY.out, cmpI_gt hd2] at HC
              go_wp2
              go_quiet (fail)
              go_wp2
              go_quiet (fail)
              go_wp2
              go_ret
              exact ⟨ret_int HC.out, (by repeat (first | exact Below.refl _ _ | refine Below.alloc ?_ ?_ _ | refine Below.setCell ?_ ?_ _ | refine Below.drew ?_ | refine below_drewN ?_ _ | (· simp) | omega | (· simp; omega) | exact Below.size (by assumption) | assumption | refine below_call ?_ (by assumption) ?_))⟩
            · have hd2 : ¬ (y : Int) < (x : Int) := by omega
              have HDP := hid (drop_pred (A := A) (B := B) (by omega) (by rw [HL.out]; exact hk) hk HD.out (by rw [← HX.out, ← HY.out]; omega))
              go_wp2
              go_quiet (fail)
              go_wp2
              go_quiet (fail)
              go_wp2
              go_roundw
              case rel => exact ⟨k - 1, by omega, by go_num, HDP, (by repeat (first | exact Below.refl _ _ | refine Below.alloc ?_ ?_ _ | refine Below.setCell ?_ ?_ _ | refine Below.drew ?_ | refine below_drewN ?_ _ | (· simp) | omega | (· simp; omega) | exact Below.size (by assumption) | assumption | refine below_call ?_ (by assumption) ?_))⟩
              case measure => simp [intOf]; omega
  · have hl2 : ((A.length : Int) != (B.length : Int)) = true := by simp; omega
    have HC := hid (cmp_len ha.1 hb.1 hca hcb hl)
    by_cases hlt : A.length < B.length
    · rw [cmpI_lt (x := (A.length : Int)) (by omega)] at HC
      go_enter Tryz.func80, Tryz.ntmps80
      go_wp2
      go_ret
      exact ⟨ret_int HC.out, Below.refl _ _⟩
    · rw [cmpI_gt (x := (A.length : Int)) (by omega)] at HC
      go_enter Tryz.func80, Tryz.ntmps80
      go_wp2
      go_ret
      exact ⟨ret_int HC.out, Below.refl _ _⟩

end Go.Proofs.YtogdchddmjokmaaGreatDoor

namespace Go.Proofs.YtogdchddmjokmaaGreatDoor
open Go.RowKit Lm
set_option linter.unusedSimpArgs false
set_option linter.unusedVariables false
set_option maxRecDepth 100000

/-- Limbs that the document's answer has made: without noughts on top. -/
def RMade (W : World) (L V : Nat) (e : Ending) (w' : World) : Prop :=
  ∃ ao cap k l, e = .returned (.slice ao k cap) ∧ Hid (k = l.length) ∧ SlAt w' ao cap l ∧ From W.heap.size ao ∧ canon l ∧ l.length ≤ L ∧ val l = V ∧ Below W.heap.size W w'

theorem val_take_next (l : List Nat) (k : Nat) : val (l.take (k + 1)) = val (l.take k) + pw k * l.getD k 0 := by
  by_cases h : k < l.length
  · exact val_take_succ l k h
  · rw [List.take_of_length_le (by omega), List.take_of_length_le (by omega), List.getD_eq_getElem?_getD, List.getElem?_eq_none (by omega)]
    simp
theorem radd_step {A B O : List Nat} {k c s c' : Nat} (hO : O.length = k) (hv : val O + pw k * c = val (A.take k) + val (B.take k)) (hs : s + 4294967296 * c' = c + A.getD k 0 + B.getD k 0) :
    val (O ++ [s]) + pw (k + 1) * c' = val (A.take (k + 1)) + val (B.take (k + 1)) := by
  rw [val_append, hO, val_take_next, val_take_next, pw_succ_mul]
  have e : val [s] = s := by simp [val]
  rw [e]
  have h1 := congrArg (pw k * ·) hs
  simp only [Nat.mul_add] at h1
  omega
theorem getD_out {l : List Nat} {k : Nat} (h : ¬ k < l.length) : l.getD k 0 = 0 := by
  rw [List.getD_eq_getElem?_getD, List.getElem?_eq_none (by omega)]; rfl
theorem u_snoc (O : List Nat) (t : Int) (s : Nat) (h : t = (s : Int)) : U O ++ [.int .u32 t] = U (O ++ [s]) := by subst h; simp [U]

/-- What stands at the head of a round of add. -/
def AddRel (w : World) (A B : List Nat) (ov cv iv : Value) (wr : World) : Prop :=
  ∃ (k c : Nat) (O : List Nat), iv = .int .i64 (k : Int) ∧ cv = .int .u64 (c : Int) ∧ c ≤ 1 ∧ O.length = k ∧ k ≤ A.length + B.length + 1 ∧ (A.length < k → B.length < k → c = 0) ∧ (k ≤ A.length ∨ k ≤ B.length ∨ c = 0) ∧ (k ≤ A.length + 1 ∨ k ≤ B.length + 1) ∧
    wr.ownsRow w.heap.size 55 1 ov O.length (U O) ∧ ok O ∧ val O + pw k * c = val (A.take k) + val (B.take k) ∧ Below w.heap.size w wr

set_option maxHeartbeats 3200000 in
theorem radd_any (w : World) (ao : Option Addr) (ca : Nat) (A : List Nat) (bo : Option Addr) (cb : Nat) (B : List Nat) (ha : SlAt w ao ca A) (hb : SlAt w bo cb B) (hN : A.length ≤ 1000000) (hM : B.length ≤ 1000000) :
    Calls Tryz.prog 37 #[.slice ao A.length ca, .slice bo B.length cb] w (RMade w (A.length + B.length + 1) (val A + val B)) := by
  have ha3 := ha.2.2.1
  have hb3 := hb.2.2.1
  unfold maxLen at ha3 hb3
  have hla := ha.2.1
  have hlb := hb.2.1
  obtain ⟨i0, hi, hz0, hz1, hz2⟩ := info_parts Tryz.info32
  go_enter Tryz.func37, Tryz.ntmps37
  go_wp2
  go_loopw [5, 6, 7] (fun ov cv iv wr => AddRel w A B ov cv iv wr) (fun ov cv iv wr => A.length + B.length + 3 - (intOf iv).toNat)
  case atStart => exact ⟨0, 0, [], rfl, rfl, by omega, rfl, by omega, by omega, by omega, by omega, World.ownsRow_nil _ _ _ _, ok_nil, by simp [val], Below.refl _ _⟩
  case round =>
    obtain ⟨k, c, O, rfl, rfl, hc, hO, hk, hx1, hx2, hx3, hown, hokO, hv, hbw⟩ := hrel
    have HO := hid hO
    have HV := hid hv
    have HX1 := hid hx1
    clear hv hO hx1
    by_cases hgo : k < A.length ∨ k < B.length ∨ 0 < c
    · obtain ⟨x, hxe⟩ : ∃ x, x = A.getD k 0 := ⟨_, rfl⟩
      obtain ⟨y, hye⟩ : ∃ y, y = B.getD k 0 := ⟨_, rfl⟩
      have hxb := ok_getD ha.1 k
      have hyb := ok_getD hb.1 k
      rw [← hxe] at hxb
      rw [← hye] at hyb
      have hcx : k < A.length → ∃ b off, ao = some ⟨b, off, none⟩ ∧ wr.cell? ⟨b, off + k, none⟩ = some (.int .u32 (x : Int)) := by
        intro h
        rcases ha.2.2.2 with ⟨_, _⟩ | ⟨b, off, rfl, hlt, hcl⟩
        · omega
        · exact ⟨b, off, rfl, by rw [hxe]; exact (hbw.cell (p := ⟨b, off + k, none⟩) hlt).trans (hcl k h)⟩
      have hcy : k < B.length → ∃ b off, bo = some ⟨b, off, none⟩ ∧ wr.cell? ⟨b, off + k, none⟩ = some (.int .u32 (y : Int)) := by
        intro h
        rcases hb.2.2.2 with ⟨_, _⟩ | ⟨b, off, rfl, hlt, hcl⟩
        · omega
        · exact ⟨b, off, rfl, by rw [hye]; exact (hbw.cell (p := ⟨b, off + k, none⟩) hlt).trans (hcl k h)⟩
      have HX := hid hxe
      have HY := hid hye
      clear hxe hye
      have hkO : O.length ≤ 3000000 := by rw [HO.out]; omega
      by_cases hA : k < A.length
      · obtain ⟨b1, o1, rfl, hc1⟩ := hcx hA
        by_cases hB : k < B.length
        · obtain ⟨b2, o2, rfl, hc2⟩ := hcy hB
          clear hcx hcy
          go_wp2_with (at_builtin; go_must (refine wpList_append_own _ rfl _ _ 22 rfl w.heap.size 55 i0 (.int .u32 0) 1 4 Tryz.underlying22 hi hz0 hz1 hz2 rfl (by decide) _ _ _ rfl (hown.alloc _) ⟨wr.heap.size, 0, none⟩ 1 1 [.int .u32 (((c : Int) + x + y) % 4294967296)] rfl rfl ?_ ?_ ?_ ?_ ?_ ?_))
          · intro q u hq
            match q, hq with
            | 0, hq => simp at hq; subst hq; simp [Addr.add]
          · intro u hu; simp at hu; subst hu; rfl
          · unfold maxLen; omega
          · omega
          · have := hbw.size; simp; omega
          · intro v' w5 hown5 hgrow _
            have hb5 : Below w.heap.size w w5 := (hbw.alloc hbw.size _).grown hgrow (by simp; have := hbw.size; omega) (fun q e => (hown.lt _ e).1)
            rw [u_snoc O _ ((c + x + y) % 4294967296) (by omega)] at hown5
            have HO5 := hid hown5
            clear hown5 hgrow hown
            go_wp2
            go_roundw
            case rel =>
              refine ⟨k + 1, (c + x + y) / 4294967296, O ++ [(c + x + y) % 4294967296], by go_num, by go_num, by omega, by rw [List.length_append, HO.out]; rfl, by omega, by omega, by omega, by omega, by rw [List.length_append]; exact HO5.out, ok_append.2 ⟨hokO, by rw [ok_cons]; exact ⟨Nat.mod_lt _ (by omega), ok_nil⟩⟩, ?_, hb5⟩
              exact radd_step HO.out HV.out (by rw [← HX.out, ← HY.out]; omega)
            case measure => simp [intOf]; omega
        · have hy0 : y = 0 := by rw [HY.out]; exact getD_out hB
          have HY0 := hid hy0
          clear hy0
          clear hcx hcy
          go_wp2_with (at_builtin; go_must (refine wpList_append_own _ rfl _ _ 22 rfl w.heap.size 55 i0 (.int .u32 0) 1 4 Tryz.underlying22 hi hz0 hz1 hz2 rfl (by decide) _ _ _ rfl (hown.alloc _) ⟨wr.heap.size, 0, none⟩ 1 1 [.int .u32 (((c : Int) + x) % 4294967296)] rfl rfl ?_ ?_ ?_ ?_ ?_ ?_))
          · intro q u hq
            match q, hq with
            | 0, hq => simp at hq; subst hq; simp [Addr.add]
          · intro u hu; simp at hu; subst hu; rfl
          · unfold maxLen; omega
          · omega
          · have := hbw.size; simp; omega
          · intro v' w5 hown5 hgrow _
            have hb5 : Below w.heap.size w w5 := (hbw.alloc hbw.size _).grown hgrow (by simp; have := hbw.size; omega) (fun q e => (hown.lt _ e).1)
            rw [u_snoc O _ ((c + x) % 4294967296) (by omega)] at hown5
            have HO5 := hid hown5
            clear hown5 hgrow hown
            go_wp2
            go_roundw
            case rel =>
              refine ⟨k + 1, (c + x) / 4294967296, O ++ [(c + x) % 4294967296], by go_num, by go_num, by omega, by rw [List.length_append, HO.out]; rfl, by omega, by omega, by omega, by omega, by rw [List.length_append]; exact HO5.out, ok_append.2 ⟨hokO, by rw [ok_cons]; exact ⟨Nat.mod_lt _ (by omega), ok_nil⟩⟩, ?_, hb5⟩
              exact radd_step HO.out HV.out (by rw [← HX.out, ← HY.out, HY0.out]; omega)
            case measure => simp [intOf]; omega
      · have hx0 : x = 0 := by rw [HX.out]; exact getD_out hA
        have HX0 := hid hx0
        clear hx0
        by_cases hB : k < B.length
        · obtain ⟨b2, o2, rfl, hc2⟩ := hcy hB
          clear hcx hcy
          go_wp2_with (at_builtin; go_must (refine wpList_append_own _ rfl _ _ 22 rfl w.heap.size 55 i0 (.int .u32 0) 1 4 Tryz.underlying22 hi hz0 hz1 hz2 rfl (by decide) _ _ _ rfl (hown.alloc _) ⟨wr.heap.size, 0, none⟩ 1 1 [.int .u32 (((c : Int) + y) % 4294967296)] rfl rfl ?_ ?_ ?_ ?_ ?_ ?_))
          · intro q u hq
            match q, hq with
            | 0, hq => simp at hq; subst hq; simp [Addr.add]
          · intro u hu; simp at hu; subst hu; rfl
          · unfold maxLen; omega
          · omega
          · have := hbw.size; simp; omega
          · intro v' w5 hown5 hgrow _
            have hb5 : Below w.heap.size w w5 := (hbw.alloc hbw.size _).grown hgrow (by simp; have := hbw.size; omega) (fun q e => (hown.lt _ e).1)
            rw [u_snoc O _ ((c + y) % 4294967296) (by omega)] at hown5
            have HO5 := hid hown5
            clear hown5 hgrow hown
            go_wp2
            go_roundw
            case rel =>
              refine ⟨k + 1, (c + y) / 4294967296, O ++ [(c + y) % 4294967296], by go_num, by go_num, by omega, by rw [List.length_append, HO.out]; rfl, by omega, by omega, by omega, by omega, by rw [List.length_append]; exact HO5.out, ok_append.2 ⟨hokO, by rw [ok_cons]; exact ⟨Nat.mod_lt _ (by omega), ok_nil⟩⟩, ?_, hb5⟩
              exact radd_step HO.out HV.out (by rw [← HX.out, ← HY.out, HX0.out]; omega)
            case measure => simp [intOf]; omega
        · have hy0 : y = 0 := by rw [HY.out]; exact getD_out hB
          have HY0 := hid hy0
          have hcc : (0 : Int) < (c : Int) := by omega
          clear hy0
          clear hcx hcy
          go_wp2_with (at_builtin; go_must (refine wpList_append_own _ rfl _ _ 22 rfl w.heap.size 55 i0 (.int .u32 0) 1 4 Tryz.underlying22 hi hz0 hz1 hz2 rfl (by decide) _ _ _ rfl (hown.alloc _) ⟨wr.heap.size, 0, none⟩ 1 1 [.int .u32 (c : Int)] rfl rfl ?_ ?_ ?_ ?_ ?_ ?_))
          · intro q u hq
            match q, hq with
            | 0, hq => simp at hq; subst hq; simp [Addr.add]
          · intro u hu; simp at hu; subst hu; rfl
          · unfold maxLen; omega
          · omega
          · have := hbw.size; simp; omega
          · intro v' w5 hown5 hgrow _
            have hb5 : Below w.heap.size w w5 := (hbw.alloc hbw.size _).grown hgrow (by simp; have := hbw.size; omega) (fun q e => (hown.lt _ e).1)
            rw [u_snoc O _ ((c) % 4294967296) (by omega)] at hown5
            have HO5 := hid hown5
            clear hown5 hgrow hown
            go_wp2
            go_roundw
            case rel =>
              refine ⟨k + 1, (c) / 4294967296, O ++ [(c) % 4294967296], by go_num, by go_num, by omega, by rw [List.length_append, HO.out]; rfl, by omega, by omega, by omega, by omega, by rw [List.length_append]; exact HO5.out, ok_append.2 ⟨hokO, by rw [ok_cons]; exact ⟨Nat.mod_lt _ (by omega), ok_nil⟩⟩, ?_, hb5⟩
              exact radd_step HO.out HV.out (by rw [← HX.out, ← HY.out, HX0.out, HY0.out]; omega)
            case measure => simp [intOf]; omega
    · have hc0 : c = 0 := by omega
      subst hc0
      have hA : ¬ k < A.length := by omega
      have hB : ¬ k < B.length := by omega
      have HV2 : Hid (val O = val A + val B) := hid (by have := HV.out; rw [List.take_of_length_le (by omega), List.take_of_length_le (by omega)] at this; simpa using this)
      obtain ⟨ao2, cap2, rfl, hfr⟩ := own_shape hown
      have hs := own_slAt hown hokO
      have hkO : O.length ≤ 3000000 := by rw [HO.out]; omega
      have hcm := hs.2.2.1
      unfold maxLen at hcm
      have Hs := hid hs
      have HF := hid hfr
      clear hown hs hfr hgo
      go_wp2_with fail
      refine (rtrim_any _ ao2 cap2 O Hs.out).mono ?_
      rintro e w3 ⟨n, rfl, rfl, hn, hcn, hvn⟩
      have HVN := hid hvn
      clear hvn
      go_wp2
      go_ret
      exact ⟨ao2, cap2, n, O.take n, rfl, (take_len hn).symm, Hs.out.take n hn, HF.out, hcn, by rw [take_len hn]; have := HO.out; omega, by rw [HVN.out, HV2.out], hbw⟩

end Go.Proofs.YtogdchddmjokmaaGreatDoor

namespace Go.Proofs.YtogdchddmjokmaaGreatDoor
open Go.RowKit Lm
set_option linter.unusedSimpArgs false
set_option linter.unusedVariables false
set_option maxRecDepth 100000

/-- A row of the call's own, its room known: what is stored goes into its limbs. -/
theorem rown_set {w : World} {base g cap : Nat} {C : List Nat} (h : w.ownsRow base 55 1 (.slice (some ⟨g, 0, none⟩) C.length cap) C.length (U C)) (i x : Nat) : (w.setCell ⟨g, i, none⟩ (.int .u32 (x : Int))).ownsRow base 55 1 (.slice (some ⟨g, 0, none⟩) (C.set i x).length cap) (C.set i x).length (U (C.set i x)) := by
  have h1 := (h.stored i (.int .u32 (x : Int))).1
  have e : U (C.set i x) = (U C).set i (.int .u32 (x : Int)) := by simp [U, List.map_set]
  rw [e, List.length_set]
  exact h1
theorem rsub_step {A B C : List Nat} {k c s c' : Nat} (hkC : k < C.length) (hkA : k < A.length) (hv : val (A.take k) + pw k * c = val (C.take k) + val (B.take k)) (hs : A.getD k 0 + 4294967296 * c' = s + B.getD k 0 + c) :
    val (A.take (k + 1)) + pw (k + 1) * c' = val ((C.set k s).take (k + 1)) + val (B.take (k + 1)) := by
  rw [take_set_succ hkC, val_take_succ A k hkA, val_take_next, pw_succ_mul]
  have h1 := congrArg (pw k * ·) hs
  simp only [Nat.mul_add] at h1
  omega

set_option maxHeartbeats 3200000 in
theorem rsub_any (w : World) (ao : Option Addr) (ca : Nat) (A : List Nat) (bo : Option Addr) (cb : Nat) (B : List Nat) (ha : SlAt w ao ca A) (hb : SlAt w bo cb B) (hN : A.length ≤ 1000000) (hle : B.length ≤ A.length) (hvv : val B ≤ val A) (hA0 : 0 < A.length) :
    Calls Tryz.prog 82 #[.slice ao A.length ca, .slice bo B.length cb] w (RMade w A.length (val A - val B)) := by
  have ha3 := ha.2.2.1
  have hb3 := hb.2.2.1
  unfold maxLen at ha3 hb3
  have hla := ha.2.1
  have hlb := hb.2.1
  have HVV := hid hvv
  clear hvv
  obtain ⟨i0, hi, hz0, hz1, hz2⟩ := info_parts Tryz.info32
  rcases ha.2.2.2 with ⟨_, _⟩ | ⟨b1, o1, rfl, hlt1, hc1⟩
  · omega
  go_enter Tryz.func82, Tryz.ntmps82
  go_wp2_with (at_builtin; go_must (refine wpList_append_own _ rfl _ _ 22 rfl w.heap.size 55 i0 (.int .u32 0) 1 4 Tryz.underlying22 hi hz0 hz1 hz2 rfl (by decide) (.slice (some ⟨w.heap.size, 0, none⟩) 0 0) 0 [] rfl (own_empty _ _ _ rfl (Nat.le_refl _)) ⟨b1, o1, none⟩ A.length ca (U A) rfl (by rw [u_length, Nat.mul_one]) ?_ (u_one _) (by unfold maxLen; omega) (by omega) ?_ ?_))
  · exact src_below ha (by repeat (first | exact Below.refl _ _ | refine Below.alloc ?_ ?_ _ | refine Below.setCell ?_ ?_ _ | refine Below.drew ?_ | refine below_drewN ?_ _ | (· simp) | omega | (· simp; omega) | exact Below.size (by assumption) | assumption | refine below_call ?_ (by assumption) ?_))
  · simp
  · intro v' w1 hown hgrow _
    have hb1 : Below w.heap.size w w1 := ((Below.refl _ _).alloc (Nat.le_refl _) _).grown hgrow (by simp) (by intro k e; simp [Value.ownBlock] at e; omega)
    obtain ⟨ao2, cap2, rfl, hfr⟩ := own_shape hown
    obtain ⟨g, rfl, hg⟩ : ∃ g, ao2 = some ⟨g, 0, none⟩ ∧ w.heap.size ≤ g := by
      rcases hown.2 with ⟨_, h0⟩ | ⟨g, cap', cur, h', hbg, _⟩
      · omega
      · simp only [Value.slice.injEq, true_and] at h'
        exact ⟨g, h'.1, hbg⟩
    clear hgrow hfr hc1
    go_wp2
    go_loopw [6, 7] (fun cv iv wr => ∃ (k c : Nat) (C : List Nat), k ≤ A.length ∧ iv = .int .i64 (k : Int) ∧ cv = .int .u64 (c : Int) ∧ c ≤ 1 ∧ Hid (C.length = A.length) ∧ ok C ∧ Hid (C.drop k = A.drop k) ∧ Hid (val (A.take k) + pw k * c = val (C.take k) + val (B.take k)) ∧ wr.ownsRow w.heap.size 55 1 (.slice (some ⟨g, 0, none⟩) C.length cap2) C.length (U C) ∧ Below w.heap.size w wr) (fun cv iv wr => A.length - (intOf iv).toNat)
    case atStart => exact ⟨0, 0, A, Nat.zero_le _, rfl, rfl, by omega, rfl, ha.1, rfl, by simp [val, Hid], hown, hb1⟩
    case round =>
      clear hown hb1
      obtain ⟨k, c, C, hk, rfl, rfl, hc, HL, hokC, HD, HV, hown, hbw⟩ := hrel
      by_cases hlt : k < A.length
      · have hx : wr.cell? ⟨g, k, none⟩ = some (.int .u32 ((A.getD k 0 : Nat) : Int)) := by
          rw [hown.cellAt k (by rw [HL.out]; omega), ← drop_getD HD.out]
          simp [U, List.getD_eq_getElem?_getD, show k < C.length by rw [HL.out]; omega]
        have hfz := hown.frozenAt k
        obtain ⟨x, hxe⟩ : ∃ x, x = A.getD k 0 := ⟨_, rfl⟩
        obtain ⟨y, hye⟩ : ∃ y, y = B.getD k 0 := ⟨_, rfl⟩
        have hxb := ok_getD ha.1 k
        have hyb := ok_getD hb.1 k
        rw [← hxe] at hxb hx
        rw [← hye] at hyb
        have hcy : k < B.length → ∃ b off, bo = some ⟨b, off, none⟩ ∧ wr.cell? ⟨b, off + k, none⟩ = some (.int .u32 (y : Int)) := by
          intro h
          rcases hb.2.2.2 with ⟨_, _⟩ | ⟨b, off, rfl, hlt, hcl⟩
          · omega
          · exact ⟨b, off, rfl, by rw [hye]; exact (hbw.cell (p := ⟨b, off + k, none⟩) hlt).trans (hcl k h)⟩
        have HX := hid hxe
        have HY := hid hye
        have Hown := hid hown
        clear hxe hye hown
        have hkC : k < C.length := by rw [HL.out]; exact hlt
        have HKC := hid hkC
        clear hkC
        by_cases hB : k < B.length
        · obtain ⟨b2, o2, rfl, hc2⟩ := hcy hB
          clear hcy
          by_cases hge : c + y ≤ x
          · have hge' : (c : Int) + y ≤ x := by omega
            go_wp2
            go_roundw
            case rel =>
              rw [show ((x : Int) - ((c : Int) + y)) = ((x - (c + y) : Nat) : Int) by omega]
              refine ⟨k + 1, 0, C.set k (x - (c + y)), by omega, by go_num, rfl, by omega, by rw [Hid, List.length_set]; exact HL.out, ok_set hokC _ _ (by omega), set_drop_succ HD.out, ?_, rown_set Hown.out k (x - (c + y)), hbw.setCell hg _⟩
              exact rsub_step HKC.out hlt HV.out (by rw [← HX.out, ← HY.out]; omega)
            case measure => simp [intOf]; omega
          · have hge' : ¬ (c : Int) + y ≤ x := by omega
            go_wp2
            go_roundw
            case rel =>
              rw [show ((x : Int) + 4294967296 - ((c : Int) + y)) = ((x + 4294967296 - (c + y) : Nat) : Int) by omega]
              refine ⟨k + 1, 1, C.set k (x + 4294967296 - (c + y)), by omega, by go_num, rfl, by omega, by rw [Hid, List.length_set]; exact HL.out, ok_set hokC _ _ (by omega), set_drop_succ HD.out, ?_, rown_set Hown.out k (x + 4294967296 - (c + y)), hbw.setCell hg _⟩
              exact rsub_step HKC.out hlt HV.out (by rw [← HX.out, ← HY.out]; omega)
            case measure => simp [intOf]; omega
        · have hy0 : y = 0 := by rw [HY.out]; exact getD_out hB
          have HY0 := hid hy0
          clear hcy hy0
          by_cases hge : c ≤ x
          · have hge' : (c : Int) ≤ x := by omega
            go_wp2
            go_roundw
            case rel =>
              rw [show ((x : Int) - (c : Int)) = ((x - c : Nat) : Int) by omega]
              refine ⟨k + 1, 0, C.set k (x - c), by omega, by go_num, rfl, by omega, by rw [Hid, List.length_set]; exact HL.out, ok_set hokC _ _ (by omega), set_drop_succ HD.out, ?_, rown_set Hown.out k (x - c), hbw.setCell hg _⟩
              exact rsub_step HKC.out hlt HV.out (by rw [← HX.out, ← HY.out, HY0.out]; omega)
            case measure => simp [intOf]; omega
          · have hge' : ¬ (c : Int) ≤ x := by omega
            go_wp2
            go_roundw
            case rel =>
              rw [show ((x : Int) + 4294967296 - (c : Int)) = ((x + 4294967296 - c : Nat) : Int) by omega]
              refine ⟨k + 1, 1, C.set k (x + 4294967296 - c), by omega, by go_num, rfl, by omega, by rw [Hid, List.length_set]; exact HL.out, ok_set hokC _ _ (by omega), set_drop_succ HD.out, ?_, rown_set Hown.out k (x + 4294967296 - c), hbw.setCell hg _⟩
              exact rsub_step HKC.out hlt HV.out (by rw [← HX.out, ← HY.out, HY0.out]; omega)
            case measure => simp [intOf]; omega
      · have hkA : k = A.length := by omega
        subst hkA
        have HV2 : Hid (val C = val A - val B) := hid (by
          have h1 := HV.out
          rw [List.take_length, List.take_of_length_le (show B.length ≤ A.length by omega), ← HL.out, List.take_length] at h1
          exact no_borrow hokC HL.out HVV.out (by rw [← HL.out]; exact h1))
        have hs := own_slAt hown hokC
        have hcm := hs.2.2.1
        unfold maxLen at hcm
        have Hs := hid hs
        clear hown hs
        go_wp2_with fail
        rw [← HL.out]
        refine (rtrim_any _ _ cap2 C Hs.out).mono ?_
        rintro e w3 ⟨n, rfl, rfl, hn, hcn, hvn⟩
        have HVN := hid hvn
        clear hvn
        go_wp2
        go_ret
        exact ⟨_, cap2, n, C.take n, rfl, (take_len hn).symm, Hs.out.take n hn, from_row _ _ _ hg, hcn, by rw [take_len hn]; have := HL.out; omega, by rw [HVN.out, HV2.out], hbw⟩

end Go.Proofs.YtogdchddmjokmaaGreatDoor

namespace Go.Proofs.YtogdchddmjokmaaGreatDoor
open Go.RowKit Lm
set_option linter.unusedSimpArgs false
set_option linter.unusedVariables false
set_option maxRecDepth 100000

set_option maxHeartbeats 6400000 in
theorem rmul_any (w : World) (ao : Option Addr) (ca : Nat) (A : List Nat) (bo : Option Addr) (cb : Nat) (B : List Nat) (ha : SlAt w ao ca A) (hb : SlAt w bo cb B) (hN : A.length ≤ 500000) (hM : B.length ≤ 500000) :
    Calls Tryz.prog 38 #[.slice ao A.length ca, .slice bo B.length cb] w (RMade w (A.length + B.length) (val A * val B)) := by
  have hca := ha.2.2.1
  have hcb := hb.2.2.1
  unfold maxLen at hca hcb
  have hla := ha.2.1
  have hlb := hb.2.1
  obtain ⟨i0, hi, hz0, hz1, hz2⟩ := info_parts Tryz.info32
  go_enter Tryz.func38, Tryz.ntmps38
  go_wp2_with (at_make; go_must (refine wpList_make_full _ rfl _ _ 22 rfl w.heap.size 55 i0 (.int .u32 0) 1 Tryz.underlying22 hi hz0 hz1 .i64 .i64 _ _ (A.length + B.length) rfl rfl (by omega) (by omega) (by rw [hz2]; omega) (by unfold maxLen; omega) (by simp) ?_); intro w1 hown hgrow; rw [made32] at hown; obtain ⟨hrow, _⟩ := rowAt_of_own hown; have hb1 : Below w.heap.size w w1 := (Below.refl _ _).grown hgrow (Nat.le_refl _) (by simp); clear hown hgrow)
  go_loopw [6] (fun i wr => ∃ k : Nat, k ≤ A.length ∧ i = .int .i64 (k : Int) ∧ Hid (MulRow wr w.heap.size k B.length A.length (val (A.take k) * val B)) ∧ Below w.heap.size w wr) (fun i wr => A.length - (intOf i).toNat)
  case atStart =>
    refine ⟨0, Nat.zero_le _, rfl, ⟨List.replicate B.length 0, by simp, ok_replicate _, by simp [val, val_replicate], ?_⟩, hb1⟩
    have e : List.replicate B.length 0 ++ List.replicate (A.length - 0) 0 = List.replicate (A.length + B.length) 0 := by simp [Nat.add_comm]
    rw [e]; exact hrow
  case round =>
    clear hrow hb1
    obtain ⟨i, hiA, rfl, HR, hbw⟩ := hrel
    by_cases hlt : i < A.length
    · rcases ha.2.2.2 with ⟨_, _⟩ | ⟨b1, o1, rfl, hltb, hcb'⟩
      · omega
      have hxb := ok_getD ha.1 i
      have HT := hid (val_take_succ A i hlt)
      have hxc := hcb' i hlt
      obtain ⟨x, hxe⟩ : ∃ x, x = A.getD i 0 := ⟨_, rfl⟩
      rw [← hxe] at hxb HT hxc
      clear hxe hcb'
      obtain ⟨R, hRl, hRok, hRv, hRr⟩ := HR.out
      obtain ⟨P, hPe⟩ : ∃ P, P = R.take i := ⟨_, rfl⟩
      obtain ⟨S, hSe⟩ : ∃ S, S = R.drop i := ⟨_, rfl⟩
      have hP : P.length = i := by rw [hPe]; simp; omega
      have hS : S.length = B.length := by rw [hSe]; simp; omega
      have hokP : ok P := by rw [hPe]; exact ok_take hRok i
      have hokS : ok S := by rw [hSe]; exact ok_drop hRok i
      have hPS : val (P ++ S) = val (A.take i) * val B := by rw [hPe, hSe, List.take_append_drop]; exact hRv
      have hr0 : RowAt wr w.heap.size (P ++ (S ++ List.replicate (A.length - i) 0)) := by rw [hPe, hSe, ← List.append_assoc, List.take_append_drop]; exact hRr
      have HP := hid hP
      have HS := hid hS
      have HPS := hid hPS
      clear hRl hRok hRv hRr HR hPe hSe hP hS hPS
      go_wp2
      go_loopw [7, 8] (fun cv kv wr => ∃ (k c : Nat) (C : List Nat), k ≤ B.length ∧ kv = .int .i64 (k : Int) ∧ cv = .int .u64 (c : Int) ∧ c < 4294967296 ∧ Hid (C.length = S.length) ∧ ok C ∧ Hid (C.drop k = S.drop k) ∧ Hid (val (C.take k) + pw k * c = val (S.take k) + x * val (B.take k)) ∧ RowAt wr w.heap.size (P ++ (C ++ List.replicate (A.length - i) 0)) ∧ Below w.heap.size w wr) (fun cv kv wr => B.length - (intOf kv).toNat)
      case atStart => exact ⟨0, 0, S, Nat.zero_le _, rfl, rfl, by omega, rfl, hokS, rfl, by simp [val, Hid], hr0, hbw⟩
      case round =>
        clear hr0 hbw
        obtain ⟨k, c, C, hk, rfl, rfl, hc, HL, hokC, HD, HV, hrw, hbw⟩ := hrel
        by_cases hltk : k < B.length
        · rcases hb.2.2.2 with ⟨_, _⟩ | ⟨b2, o2, rfl, hltb2, hcb2⟩
          · omega
          have hx := (hbw.cell (p := ⟨b1, o1 + i, none⟩) hltb).trans hxc
          have hy := (hbw.cell (p := ⟨b2, o2 + k, none⟩) hltb2).trans (hcb2 k hltk)
          have hz : wr.cell? ⟨w.heap.size, i + k, none⟩ = some (.int .u32 ((S.getD k 0 : Nat) : Int)) := by
            rw [hrw.cellO HP.out.symm (by rw [HL.out, HS.out]; omega), drop_getD HD.out]
          have hfz := hrw.frozen (i + k)
          have hzb := ok_getD hokS k
          have hyb := ok_getD hb.1 k
          obtain ⟨z, hze⟩ : ∃ z, z = S.getD k 0 := ⟨_, rfl⟩
          obtain ⟨y, hye⟩ : ∃ y, y = B.getD k 0 := ⟨_, rfl⟩
          rw [← hze] at hz hzb
          rw [← hye] at hy hyb
          have HZ := hid hze
          have HY := hid hye
          have hm := mul_bound hxb hyb
          obtain ⟨m, hme⟩ : ∃ m, m = x * y := ⟨_, rfl⟩
          rw [← hme] at hm
          have HM := hid hme
          have hmi : (x : Int) * (y : Int) = (m : Int) := by rw [hme]; simp
          have hik : (i : Int) + k < (A.length : Int) + B.length := by omega
          clear hze hye hcb2 hme
          go_wp2
          go_quiet (fail)
          go_wp2
          go_roundw
          case rel =>
            have e1 : ((m : Int) + z + c) % 4294967296 = (((m + z + c) % 4294967296 : Nat) : Int) := by omega
            rw [e1]
            have hrw2 : RowAt (wr.drewN nq) w.heap.size (P ++ (C ++ List.replicate (A.length - i) 0)) := hrw
            refine ⟨k + 1, (m + z + c) / 4294967296, C.set k ((m + z + c) % 4294967296), by omega, by go_num, by go_num, by omega, by rw [Hid, List.length_set]; exact HL.out, ok_set hokC _ _ (Nat.mod_lt _ (by omega)), set_drop_succ HD.out, ?_, hrw2.setO HP.out.symm (by rw [HL.out, HS.out]; omega), (below_drewN hbw nq).setCell (by simp) _⟩
            exact times_step (by rw [HL.out, HS.out]; omega) (by rw [HS.out]; omega) hltk HV.out (by rw [← HZ.out, ← HY.out, ← HM.out]; omega)
          case measure => simp [intOf]; omega
        · have hkB : k = B.length := by omega
          subst hkB
          have HV2 : Hid (val C + pw B.length * c = val S + x * val B) := hid (by
            have := HV.out
            rw [List.take_length, ← HS.out, List.take_length, ← HL.out, List.take_length] at this
            rw [← HS.out, ← HL.out]
            exact this)
          have hz : wr.cell? ⟨w.heap.size, i + B.length, none⟩ = some (.int .u32 ((0 : Nat) : Int)) := by
            rw [hrw.cell (i + B.length) (by simp; have := HP.out; have := HL.out; have := HS.out; omega)]
            have e2 : (P ++ (C ++ List.replicate (A.length - i) 0)).getD (i + B.length) 0 = 0 := by
              have := HP.out; have := HL.out; have := HS.out
              rw [List.getD_eq_getElem?_getD, List.getElem?_append_right (by omega), List.getElem?_append_right (by omega), List.getElem?_replicate]
              rw [if_pos (by omega)]; rfl
            rw [e2]
          have hfz := hrw.frozen (i + B.length)
          have HN : Hid (MulRow (wr.setCell ⟨w.heap.size, i + B.length, none⟩ (.int .u32 (c : Int))) w.heap.size (i + 1) B.length A.length (val (A.take (i + 1)) * val B)) := by
            have q1 := HP.out
            have q2 := HL.out
            have q3 := HS.out
            refine ⟨P ++ (C ++ [c]), by simp; omega, ok_append.2 ⟨hokP, ok_append.2 ⟨hokC, by rw [ok_cons]; exact ⟨hc, ok_nil⟩⟩⟩, ?_, ?_⟩
            · rw [HT.out]
              exact mul_step (S := S) q1 q3 (by omega) HPS.out HV2.out
            · have h3 := hrw.set (i + B.length) c
              rw [List.set_append_right _ _ (by omega), List.set_append_right _ _ (by omega)] at h3
              have e3 : (List.replicate (A.length - i) 0).set (i + B.length - P.length - C.length) c = c :: List.replicate (A.length - (i + 1)) 0 := by
                rw [show i + B.length - P.length - C.length = 0 by omega, show A.length - i = (A.length - (i + 1)) + 1 by omega, List.replicate_succ]
                rfl
              rw [e3] at h3
              have e4 : P ++ (C ++ [c]) ++ List.replicate (A.length - (i + 1)) 0 = P ++ (C ++ c :: List.replicate (A.length - (i + 1)) 0) := by simp
              rw [e4]
              exact h3
          go_wp2
          go_roundw
          case rel => exact ⟨i + 1, by omega, by go_num, HN, hbw.setCell (by simp) _⟩
          case measure => simp [intOf]; omega
    · have hkA : i = A.length := by omega
      subst hkA
      obtain ⟨R, hRl, hRok, hRv, hRr⟩ := HR.out
      rw [Nat.sub_self, List.replicate_zero, List.append_nil] at hRr
      rw [List.take_length] at hRv
      have hs := hRr.whole hRok (by omega)
      have Hs := hid hs
      have HRL := hid hRl
      have HRV := hid hRv
      clear hRl hRok hRv hRr HR hs
      go_wp2_with fail
      rw [← HRL.out]
      refine (rtrim_any _ _ R.length R Hs.out).mono ?_
      rintro e w3 ⟨n, rfl, rfl, hn, hcn, hvn⟩
      have HVN := hid hvn
      clear hvn
      go_wp2
      go_ret
      exact ⟨_, R.length, n, R.take n, by rw [HRL.out]; rfl, (take_len hn).symm, Hs.out.take n hn, from_row _ _ _ (Nat.le_refl _), hcn, by rw [take_len hn]; have := HRL.out; omega, by rw [HVN.out, HRV.out], hbw⟩

end Go.Proofs.YtogdchddmjokmaaGreatDoor

namespace Go.Proofs.YtogdchddmjokmaaGreatDoor
open Go.RowKit Lm
set_option linter.unusedSimpArgs false
set_option linter.unusedVariables false
set_option maxRecDepth 100000

theorem rnorm_h (w0 w : World) (v : Value) (n : Nat) (z : Int) (h : Arg w0 v n z) (hw : Below w0.heap.size w0 w) :
    Calls Tryz.prog 49 #[v] w fun e w' => ∃ neg ao cap k l, e = .returned (.agg #[.bool neg, .slice ao k cap]) ∧ Hid (k = l.length) ∧ Cnt w0 n z neg ao cap l ∧ Below w.heap.size w w' := by
  refine (rnorm_num w0 w v n z h hw).mono ?_
  rintro e w' ⟨neg, ao, cap, l, rfl, h1, h2, h3, h4, h5⟩
  exact ⟨neg, ao, cap, l.length, l, rfl, rfl, ⟨h1, h2, h3, h4⟩, h5⟩
theorem rmk_k (w : World) (neg : Bool) (ao : Option Addr) (cap k : Nat) (l : List Nat) (hk : k = l.length) (h : SlAt w ao cap l) (hl : l.length ≤ 1000000) :
    Calls Tryz.prog 27 #[.bool neg, .slice ao k cap] w fun e w' => ∃ neg' ao' n' cap', e = .returned (.agg #[.bool neg', .slice ao' n' cap']) ∧ Hid (Is w' w.heap.size (.agg #[.bool neg', .slice ao' n' cap']) l.length (sgn neg (val l))) ∧ Below w.heap.size w w' := by
  subst hk
  exact rmk_any w neg ao cap l h hl
theorem radd_k (w : World) (ao : Option Addr) (ca ka : Nat) (A : List Nat) (bo : Option Addr) (cb kb : Nat) (B : List Nat) (hka : ka = A.length) (hkb : kb = B.length) (ha : SlAt w ao ca A) (hb : SlAt w bo cb B) (hN : A.length ≤ 1000000) (hM : B.length ≤ 1000000) :
    Calls Tryz.prog 37 #[.slice ao ka ca, .slice bo kb cb] w (RMade w (A.length + B.length + 1) (val A + val B)) := by
  subst hka hkb; exact radd_any w ao ca A bo cb B ha hb hN hM
theorem rmul_k (w : World) (ao : Option Addr) (ca ka : Nat) (A : List Nat) (bo : Option Addr) (cb kb : Nat) (B : List Nat) (hka : ka = A.length) (hkb : kb = B.length) (ha : SlAt w ao ca A) (hb : SlAt w bo cb B) (hN : A.length ≤ 500000) (hM : B.length ≤ 500000) :
    Calls Tryz.prog 38 #[.slice ao ka ca, .slice bo kb cb] w (RMade w (A.length + B.length) (val A * val B)) := by
  subst hka hkb; exact rmul_any w ao ca A bo cb B ha hb hN hM
theorem rsub_k (w : World) (ao : Option Addr) (ca ka : Nat) (A : List Nat) (bo : Option Addr) (cb kb : Nat) (B : List Nat) (hka : ka = A.length) (hkb : kb = B.length) (ha : SlAt w ao ca A) (hb : SlAt w bo cb B) (hN : A.length ≤ 1000000) (hle : B.length ≤ A.length) (hvv : val B ≤ val A) (hA0 : 0 < A.length) :
    Calls Tryz.prog 82 #[.slice ao ka ca, .slice bo kb cb] w (RMade w A.length (val A - val B)) := by
  subst hka hkb; exact rsub_any w ao ca A bo cb B ha hb hN hle hvv hA0
theorem rcmp_k (w : World) (ao : Option Addr) (ca ka : Nat) (A : List Nat) (bo : Option Addr) (cb kb : Nat) (B : List Nat) (hka : ka = A.length) (hkb : kb = B.length) (ha : SlAt w ao ca A) (hb : SlAt w bo cb B) (hca : canon A) (hcb : canon B) :
    Calls Tryz.prog 80 #[.slice ao ka ca, .slice bo kb cb] w fun e w' => e = .returned (.int .i64 (cmpI (val A : Int) (val B : Int))) ∧ Below w.heap.size w w' := by
  subst hka hkb; exact rcmp_any w ao ca A bo cb B ha hb hca hcb

end Go.Proofs.YtogdchddmjokmaaGreatDoor

namespace Go.Proofs.YtogdchddmjokmaaGreatDoor
open Go.RowKit Lm
set_option linter.unusedSimpArgs false
set_option linter.unusedVariables false
set_option maxRecDepth 100000

theorem sgn_same (neg : Bool) (a b : Nat) : sgn neg a + sgn neg b = sgn neg (a + b) := by cases neg <;> simp [sgn] <;> omega
theorem sgn_less (n1 n2 : Bool) (a b : Nat) (h : n1 ≠ n2) (hv : b ≤ a) : sgn n1 a + sgn n2 b = sgn n1 (a - b) := by cases n1 <;> cases n2 <;> simp [sgn] at h ⊢ <;> omega

end Go.Proofs.YtogdchddmjokmaaGreatDoor

namespace Go.Proofs.YtogdchddmjokmaaGreatDoor
open Go.RowKit Lm
set_option linter.unusedSimpArgs false
set_option linter.unusedVariables false
set_option maxRecDepth 100000

theorem is_sign {W : World} {lo n k cap : Nat} {neg : Bool} {ao : Option Addr} {z : Int} (h : Is W lo (.agg #[.bool neg, .slice ao k cap]) n z) : (k = 0 ↔ z = 0) ∧ (k ≠ 0 → (neg = true ↔ z < 0)) ∧ k ≤ n ∧ k ≤ 9223372036854775807 := by
  obtain ⟨neg', ao', cap', l, e, hs, _, hl, hm, rfl⟩ := h
  simp only [Value.agg.injEq, Array.mk.injEq, List.cons.injEq, Value.bool.injEq, Value.slice.injEq, and_true] at e
  obtain ⟨rfl, rfl, rfl, rfl⟩ := e
  have hcm := hs.2.2.1
  have hlc := hs.2.1
  unfold maxLen at hcm
  refine ⟨⟨fun h0 => ?_, fun h0 => ?_⟩, fun h0 => ?_, hl, by omega⟩
  · rw [List.eq_nil_of_length_eq_zero h0]; cases neg <;> simp [sgn, val]
  · have : val l = 0 := by have := sgn_abs neg (val l); omega
    rw [val_eq_zero (may_canon hm) this]; rfl
  · have h1 := canon_pos (may_canon hm) (by intro e; subst e; simp at h0)
    have h2 := pw_pos (l.length - 1)
    cases neg <;> simp [sgn] <;> omega

end Go.Proofs.YtogdchddmjokmaaGreatDoor

namespace Go.Proofs.YtogdchddmjokmaaGreatDoor
open Go.RowKit Lm
set_option linter.unusedSimpArgs false
set_option linter.unusedVariables false
set_option maxRecDepth 100000

theorem two_limb {x c : Nat} (hc : c ≤ 1) : (2 * x % 4294967296) ||| c = 2 * x % 4294967296 + c := by
  rcases (show c = 0 ∨ c = 1 by omega) with rfl | rfl
  · simp
  · obtain ⟨y, hy⟩ : ∃ y, 2 * x % 4294967296 = 2 * y := ⟨2 * x % 4294967296 / 2, by omega⟩
    rw [hy]
    have := Nat.two_pow_add_eq_or_of_lt (i := 1) (b := 1) (by omega) y
    simpa using this.symm
theorem two_step {A O : List Nat} {k c o s c' : Nat} (hO : O.length = k) (hk : k < A.length) (hv : val O + pw k * c = 2 * val (A.take k) + o) (hs : s + 4294967296 * c' = 2 * A.getD k 0 + c) :
    val (O ++ [s]) + pw (k + 1) * c' = 2 * val (A.take (k + 1)) + o := by
  rw [val_append, hO, val_take_next, pw_succ_mul]
  have e : val [s] = s := by simp [val]
  rw [e]
  have h1 := congrArg (pw k * ·) hs
  simp only [Nat.mul_add] at h1
  have h2 : pw k * (2 * A.getD k 0) = 2 * (pw k * A.getD k 0) := by rw [Nat.mul_left_comm]
  omega

/-- What stands at the head of a round of twice. -/
def TwRel (w : World) (A : List Nat) (o : Nat) (ov cv iv : Value) (wr : World) : Prop :=
  ∃ (k c : Nat) (O : List Nat), iv = .int .i64 (k : Int) ∧ cv = .int .u32 (c : Int) ∧ c ≤ 1 ∧ O.length = k ∧ k ≤ A.length ∧
    wr.ownsRow w.heap.size 55 1 ov O.length (U O) ∧ ok O ∧ val O + pw k * c = 2 * val (A.take k) + o ∧ Below w.heap.size w wr

set_option maxHeartbeats 3200000 in
theorem rtwice_any (w : World) (ao : Option Addr) (ca ka : Nat) (A : List Nat) (one : Bool) (hka : ka = A.length) (ha : SlAt w ao ca A) (hN : A.length ≤ 1000000) :
    Calls Tryz.prog 81 #[.slice ao ka ca, .bool one] w (RMade w (A.length + 1) (2 * val A + (if one then 1 else 0))) := by
  subst hka
  have ha3 := ha.2.2.1
  unfold maxLen at ha3
  have hla := ha.2.1
  obtain ⟨i0, hi, hz0, hz1, hz2⟩ := info_parts Tryz.info32
  obtain ⟨o, ho⟩ : ∃ o : Nat, o = (if one then 1 else 0) := ⟨_, rfl⟩
  have HOO := hid ho
  rw [← ho]
  have key : ∀ (cv : Nat), cv = o → TwRel w A o (.slice none 0 0) (.int .u32 (cv : Int)) (.int .i64 0) w := by
    intro cv hcv
    subst hcv
    exact ⟨0, cv, [], rfl, rfl, by rw [HOO.out]; split <;> omega, rfl, Nat.zero_le _, World.ownsRow_nil _ _ _ _, ok_nil, by simp [val, pw], Below.refl _ _⟩
  have HK := hid key
  clear key ho
  go_enter Tryz.func81, Tryz.ntmps81
  cases one
  all_goals
    go_wp2
    go_loopw [5, 6, 7] (fun ov cv iv wr => TwRel w A o ov cv iv wr) (fun ov cv iv wr => A.length + 1 - (intOf iv).toNat)
    case atStart => exact HK.out _ (by rw [HOO.out]; rfl)
    case round =>
      clear HK HOO
      obtain ⟨k, c, O, rfl, rfl, hc, hO, hk, hown, hokO, hv, hbw⟩ := hrel
      have HO := hid hO
      have HV := hid hv
      clear hv hO
      have hkO : O.length ≤ 3000000 := by rw [HO.out]; omega
      by_cases hlt : k < A.length
      · obtain ⟨x, hxe⟩ : ∃ x, x = A.getD k 0 := ⟨_, rfl⟩
        have hxb := ok_getD ha.1 k
        rw [← hxe] at hxb
        rcases ha.2.2.2 with ⟨_, _⟩ | ⟨b1, o1, rfl, hltb, hcl⟩
        · omega
        have hc1 : wr.cell? ⟨b1, o1 + k, none⟩ = some (.int .u32 (x : Int)) := by rw [hxe]; exact (hbw.cell (p := ⟨b1, o1 + k, none⟩) hltb).trans (hcl k hlt)
        have HX := hid hxe
        have HL := hid (two_limb (x := x) hc)
        have hcb : b1 < wr.heap.size := Nat.lt_of_lt_of_le hltb hbw.size
        clear hxe hcl
        have HBI : Hid (bits BinOp.or IntKind.u32 ((x : Int) * 2 % 4294967296) (c : Int) = ((2 * x % 4294967296 + c : Nat) : Int)) := hid (by
          rw [show (x : Int) * 2 % 4294967296 = ((2 * x % 4294967296 : Nat) : Int) by omega, u32_or_nat _ _ (by omega) (by omega), HL.out])
        go_wp2_with (at_builtin; go_must (refine wpList_append_own _ rfl _ _ 22 rfl w.heap.size 55 i0 (.int .u32 0) 1 4 Tryz.underlying22 hi hz0 hz1 hz2 rfl (by decide) _ _ _ rfl (hown.alloc _) ⟨wr.heap.size, 0, none⟩ 1 1 [.int .u32 (bits BinOp.or IntKind.u32 ((x : Int) * 2 % 4294967296) (c : Int))] rfl rfl ?_ ?_ ?_ ?_ ?_ ?_))
        · intro q u hq
          match q, hq with
          | 0, hq => simp at hq; subst hq; simp [Addr.add]
        · intro u hu; simp at hu; subst hu; rfl
        · unfold maxLen; omega
        · omega
        · have := hbw.size; simp; omega
        · intro v' w5 hown5 hgrow _
          have hb5 : Below w.heap.size w w5 := (hbw.alloc hbw.size _).grown hgrow (by simp; have := hbw.size; omega) (fun q e => (hown.lt _ e).1)
          rw [u_snoc O _ (2 * x % 4294967296 + c) HBI.out] at hown5
          have HO5 := hid hown5
          have hc5 : w5.cell? ⟨b1, o1 + k, none⟩ = some (.int .u32 (x : Int)) := by
            have h1 := hb5.cell (p := ⟨b1, o1 + k, none⟩) hltb
            have h2 := hbw.cell (p := ⟨b1, o1 + k, none⟩) hltb
            rw [h1, ← h2]
            exact hc1
          have hcb5 : b1 < w5.heap.size := Nat.lt_of_lt_of_le hltb hb5.size
          clear hown5 hgrow hown hc1
          go_wp2
          go_roundw
          case rel =>
            refine ⟨k + 1, x / 2147483648, O ++ [2 * x % 4294967296 + c], by go_num, by go_num, by omega, by rw [List.length_append, HO.out]; rfl, by omega, by rw [List.length_append]; exact HO5.out, ok_append.2 ⟨hokO, by rw [ok_cons]; exact ⟨by omega, ok_nil⟩⟩, ?_, hb5⟩
            exact two_step HO.out hlt HV.out (by rw [← HX.out]; omega)
          case measure => simp [intOf]; omega
      · have hkA : k = A.length := by omega
        have HVF : Hid (val (O ++ [c]) = 2 * val A + o) := hid (by
          have := HV.out
          rw [hkA, List.take_length] at this
          rw [val_append, HO.out, hkA]
          simpa [val] using this)
        have HLF : Hid ((O ++ [c]).length = A.length + 1) := hid (by rw [List.length_append, HO.out, hkA]; rfl)
        have hli : ¬ (k : Int) < (A.length : Int) := by omega
        clear hkA
        have hbs := hbw.size
        go_wp2_with (at_builtin; go_must (refine wpList_append_own _ rfl _ _ 22 rfl w.heap.size 55 i0 (.int .u32 0) 1 4 Tryz.underlying22 hi hz0 hz1 hz2 rfl (by decide) _ _ _ rfl (hown.alloc _) ⟨wr.heap.size, 0, none⟩ 1 1 [.int .u32 ((c : Int))] rfl rfl ?_ ?_ ?_ ?_ ?_ ?_))
        any_goals (first | rfl | (unfold maxLen; omega) | omega | skip)
        · intro v' w5 hown5 hgrow _
          have hb5 : Below w.heap.size w w5 := (hbw.alloc hbw.size _).grown hgrow (by simp; have := hbw.size; omega) (fun q e => (hown.lt _ e).1)
          rw [u_snoc O _ c rfl] at hown5
          have hok5 : ok (O ++ [c]) := ok_append.2 ⟨hokO, by rw [ok_cons]; exact ⟨by omega, ok_nil⟩⟩
          clear hgrow hown hokO HV
          rw [show O.length + 1 = (O ++ [c]).length by simp] at hown5
          generalize O ++ [c] = C at *
          obtain ⟨ao2, cap2, rfl, hfr⟩ := own_shape hown5
          have hs := own_slAt hown5 hok5
          have hcm := hs.2.2.1
          unfold maxLen at hcm
          have Hs := hid hs
          have HF := hid hfr
          clear hown5 hs hfr
          go_wp2_with fail
          refine (rtrim_any _ ao2 cap2 C Hs.out).mono ?_
          rintro e w3 ⟨n, rfl, rfl, hn, hcn, hvn⟩
          have HVN := hid hvn
          clear hvn
          go_wp2
          go_ret
          exact ⟨ao2, cap2, n, C.take n, rfl, (take_len hn).symm, Hs.out.take n hn, HF.out, hcn, by rw [take_len hn]; have := HLF.out; omega, by rw [HVN.out, HVF.out], hb5⟩

end Go.Proofs.YtogdchddmjokmaaGreatDoor

namespace Go.Proofs.YtogdchddmjokmaaGreatDoor
open Go.RowKit Lm
set_option linter.unusedSimpArgs false
set_option linter.unusedVariables false
set_option maxRecDepth 100000

theorem pw_two (k : Nat) : pw k = 2 ^ (32 * k) := by
  induction k with
  | zero => rfl
  | succ k ih =>
    show 4294967296 * pw k = _
    rw [ih, show 32 * (k + 1) = 32 + 32 * k by omega, Nat.pow_add]
theorem val_at {l : List Nat} {i : Nat} (h : i < l.length) : val l = val (l.take i) + pw i * (l.getD i 0 + 4294967296 * val (l.drop (i + 1))) := by
  conv => lhs; rw [← List.take_append_drop i l]
  rw [val_append, drop_val l i h, take_len (by omega)]
theorem val_setAdd {C : List Nat} {i d : Nat} (h : i < C.length) : val (C.set i (C.getD i 0 + d)) = val C + pw i * d := by
  have h1 := val_at (l := C.set i (C.getD i 0 + d)) (i := i) (by rw [List.length_set]; exact h)
  have h2 := val_at h
  have e1 : (C.set i (C.getD i 0 + d)).take i = C.take i := set_take (Nat.le_refl _)
  have e2 := set_drop (x := C.getD i 0 + d) h
  have e3 : (C.set i (C.getD i 0 + d)).drop (i + 1) = C.drop (i + 1) := by
    have := congrArg List.tail e2
    simpa [List.tail_drop] using this
  have e4 : (C.set i (C.getD i 0 + d)).getD i 0 = C.getD i 0 + d := by
    rw [List.getD_eq_getElem?_getD, List.getElem?_set_self h]; rfl
  rw [e1, e3, e4] at h1
  rw [h1, h2]
  simp only [Nat.mul_add]
  omega
/-- A bit of the number is the limb's. -/
theorem bit_at {l : List Nat} {i k : Nat} (hok : ok l) (h : i < l.length) (hk : k ≤ 31) : val l / 2 ^ (32 * i + k) % 2 = l.getD i 0 / 2 ^ k % 2 := by
  have h1 := val_at h
  have h2 : val (l.take i) < pw i := by
    have := val_lt (ok_take hok i)
    rwa [take_len (by omega)] at this
  have hp := pw_pos i
  have h3 : val l / 2 ^ (32 * i) = l.getD i 0 + 4294967296 * val (l.drop (i + 1)) := by
    rw [← pw_two, h1, Nat.add_comm, Nat.mul_add_div hp, Nat.div_eq_of_lt h2]
    omega
  rw [Nat.pow_add, ← Nat.div_div_eq_div_mul, h3]
  have e : (4294967296 : Nat) = 2 ^ k * (2 * 2 ^ (31 - k)) := by
    rw [← Nat.mul_assoc, Nat.mul_comm (2 ^ k) 2, Nat.mul_assoc, ← Nat.pow_add, show k + (31 - k) = 31 by omega]
  have h4 : (l.getD i 0 + 4294967296 * val (l.drop (i + 1))) / 2 ^ k = l.getD i 0 / 2 ^ k + 2 * (2 ^ (31 - k) * val (l.drop (i + 1))) := by
    rw [e, Nat.mul_assoc, Nat.add_mul_div_left _ _ (Nat.two_pow_pos k), Nat.mul_assoc]
  rw [h4]
  omega
theorem half_pow (a p : Nat) : a / 2 ^ (p + 1) = a / 2 ^ p / 2 := by rw [Nat.pow_succ, Nat.div_div_eq_div_mul]
theorem dm_yes {t b : Nat} (hb : 0 < b) (h : b ≤ 2 * (t / 2 % b) + t % 2) : t % b = 2 * (t / 2 % b) + t % 2 - b ∧ t / b = 2 * (t / 2 / b) + 1 := by
  have h1 := Nat.div_add_mod (t / 2) b
  have h2 := Nat.mod_lt (t / 2) hb
  have h3 : b * (2 * (t / 2 / b) + 1) = 2 * (b * (t / 2 / b)) + b := by rw [Nat.mul_add, Nat.mul_left_comm, Nat.mul_one]
  have := (Nat.div_mod_unique (a := t) (b := b) (c := 2 * (t / 2 % b) + t % 2 - b) (d := 2 * (t / 2 / b) + 1) hb).2 ⟨by omega, by omega⟩
  exact ⟨this.2, this.1⟩
theorem dm_no {t b : Nat} (hb : 0 < b) (h : ¬ b ≤ 2 * (t / 2 % b) + t % 2) : t % b = 2 * (t / 2 % b) + t % 2 ∧ t / b = 2 * (t / 2 / b) := by
  have h1 := Nat.div_add_mod (t / 2) b
  have h2 := Nat.mod_lt (t / 2) hb
  have h3 : b * (2 * (t / 2 / b)) = 2 * (b * (t / 2 / b)) := by rw [Nat.mul_left_comm]
  have := (Nat.div_mod_unique (a := t) (b := b) (c := 2 * (t / 2 % b) + t % 2) (d := 2 * (t / 2 / b)) hb).2 ⟨by omega, by omega⟩
  exact ⟨this.2, this.1⟩
/-- A bit that is not there is laid by 'or'. -/
theorem or_bit {m k : Nat} : (2 ^ (k + 1) * m) ||| 2 ^ k = 2 ^ (k + 1) * m + 2 ^ k := by
  have := Nat.two_pow_add_eq_or_of_lt (i := k + 1) (b := 2 ^ k) (Nat.pow_lt_pow_right (by omega) (by omega)) m
  exact this.symm
theorem len_val_le {a b : List Nat} (ha : ok a) (ca : canon b) (h : val b ≤ val a) : b.length ≤ a.length := by
  by_cases hl : b.length ≤ a.length
  · exact hl
  · have := val_len_lt ha ca (by omega)
    omega

end Go.Proofs.YtogdchddmjokmaaGreatDoor

namespace Go.Proofs.YtogdchddmjokmaaGreatDoor
open Go.RowKit Lm
set_option linter.unusedSimpArgs false
set_option linter.unusedVariables false
set_option maxRecDepth 100000

/-- What is known while the bits are gone through: p of them are left. -/
def DmS (w : World) (g : Nat) (A B : List Nat) (p : Nat) (C : List Nat) (rv : Value) (wr : World) : Prop :=
  ∃ ro rc rk R, rv = .slice ro rk rc ∧ Hid (rk = R.length) ∧ SlAt wr ro rc R ∧ (∀ ad, ro = some ad → g < ad.block) ∧ canon R ∧ Hid (val R = val A / 2 ^ p % val B) ∧ RowAt wr g C ∧ Hid (C.length = A.length) ∧ ok C ∧ Hid (val C = val A / 2 ^ p / val B * 2 ^ p) ∧ Below w.heap.size w wr

theorem rtrim_k (w : World) (ao : Option Addr) (cap k : Nat) (l : List Nat) (hk : k = l.length) (h : SlAt w ao cap l) :
    Calls Tryz.prog 39 #[.slice ao k cap] w fun e w' => ∃ n, e = .returned (.slice ao n cap) ∧ w' = w ∧ n ≤ l.length ∧ canon (l.take n) ∧ val (l.take n) = val l := by
  subst hk
  exact rtrim_any w ao cap l h
theorem dm_set {a b i k : Nat} {C : List Nat} (hl : i < C.length) (hV : val C = a / 2 ^ (32 * i + k + 1) / b * 2 ^ (32 * i + k + 1)) (ht : a / 2 ^ (32 * i + k) / b = 2 * (a / 2 ^ (32 * i + k) / 2 / b) + 1) : val (C.set i (C.getD i 0 + 2 ^ k)) = a / 2 ^ (32 * i + k) / b * 2 ^ (32 * i + k) := by
  rw [val_setAdd hl, hV, ht, half_pow, pw_two, ← Nat.pow_add, Nat.pow_succ, Nat.add_mul, Nat.one_mul]
  rw [Nat.mul_comm (2 ^ (32 * i + k)) 2, ← Nat.mul_assoc, Nat.mul_comm _ 2]
theorem dm_keep {a b p : Nat} {C : List Nat} (hV : val C = a / 2 ^ (p + 1) / b * 2 ^ (p + 1)) (ht : a / 2 ^ p / b = 2 * (a / 2 ^ p / 2 / b)) : val C = a / 2 ^ p / b * 2 ^ p := by
  rw [hV, ht, half_pow, Nat.pow_succ, Nat.mul_comm (2 ^ p) 2, ← Nat.mul_assoc, Nat.mul_comm _ 2]
theorem bit_nat {t : Nat} {bit : Bool} (h : decide (t % 2 = 1) = bit) : (if bit then 1 else 0) = t % 2 := by
  subst h
  by_cases h : t % 2 = 1
  · rw [decide_eq_true h]; simp [h]
  · rw [decide_eq_false h]; simp; omega

/-- What stands at the heads of the two loops. -/
def OutRel (w : World) (g : Nat) (A B : List Nat) (rv iv : Value) (wr : World) : Prop :=
  ∃ (i : Nat) (C : List Nat), i ≤ A.length ∧ iv = .int .i64 ((i : Int) - 1) ∧ DmS w g A B (32 * i) C rv wr ∧ ∀ j, j < i → C.getD j 0 = 0
def InRel (w : World) (g : Nat) (A B : List Nat) (i : Nat) (rv kv : Value) (wr : World) : Prop :=
  ∃ (k : Nat) (C : List Nat), k ≤ 32 ∧ kv = .int .i64 ((k : Int) - 1) ∧ DmS w g A B (32 * i + k) C rv wr ∧ (∀ j, j < i → C.getD j 0 = 0) ∧ ∃ m, C.getD i 0 = 2 ^ k * m

/-- A quotient and its rest have been told. -/
def RDm (w : World) (A B : List Nat) (e : Ending) (w' : World) : Prop :=
  ∃ qo qc qk Q ro rc rk R, e = .returned (.tuple #[.slice qo qk qc, .slice ro rk rc]) ∧ Hid (qk = Q.length) ∧ Hid (rk = R.length) ∧ SlAt w' qo qc Q ∧ SlAt w' ro rc R ∧ canon Q ∧ canon R ∧ val Q = val A / val B ∧ val R = val A % val B ∧ Q.length ≤ A.length ∧ Below w.heap.size w w'

set_option maxHeartbeats 6400000 in
theorem rdivmod_any (w : World) (ao : Option Addr) (ca ka : Nat) (A : List Nat) (bo : Option Addr) (cb kb : Nat) (B : List Nat) (hka : ka = A.length) (hkb : kb = B.length) (ha : SlAt w ao ca A) (hb : SlAt w bo cb B) (hca : canon A) (hcb : canon B) (hN : A.length ≤ 400000) (hM : B.length ≤ 400000) (hB : 0 < val B) :
    Calls Tryz.prog 62 #[.slice ao ka ca, .slice bo kb cb] w (RDm w A B) := by
  subst hka hkb
  have ha3 := ha.2.2.1
  have hb3 := hb.2.2.1
  unfold maxLen at ha3 hb3
  have hla := ha.2.1
  have hlb := hb.2.1
  obtain ⟨i0, hi, hz0, hz1, hz2⟩ := info_parts Tryz.info32
  go_enter Tryz.func62, Tryz.ntmps62
  go_wp2_with fail
  refine (rcmp_any _ ao ca A bo cb B ha hb hca hcb).mono ?_
  rintro e w1 ⟨rfl, hb1⟩
  have HCA := hid hca
  have HCB := hid hcb
  have HB0 := hid hB
  clear hca hcb hB
  by_cases hlt : (val A : Int) < (val B : Int)
  · rw [cmpI_lt hlt]
    have HF : Hid (RDm w A B (.returned (.tuple #[.slice none 0 0, .slice ao A.length ca])) w1) := hid
      ⟨none, 0, 0, [], ao, ca, A.length, A, rfl, rfl, rfl, ⟨ok_nil, by simp, by unfold maxLen; omega, .inl ⟨rfl, fun _ => rfl⟩⟩, ha.below hb1, canon_nil, HCA.out, by rw [Nat.div_eq_of_lt (by omega)]; rfl, by rw [Nat.mod_eq_of_lt (by omega)], by simp, hb1⟩
    clear hlt
    go_wp2
    refine bodyPost_ret (v := .tuple #[.slice none 0 0, .slice ao A.length ca]) ?_ rfl HF.out
    simp [results, Tryz.results62, go_sem]
  · have hcm : ¬ cmpI (val A : Int) (val B : Int) < 0 := by
      unfold cmpI
      rw [if_neg hlt]
      split <;> omega
    have HGE : Hid (val B ≤ val A) := hid (by omega)
    have hA0 : 0 < A.length := by
      have h1 := HGE.out
      have h2 := HB0.out
      rcases Nat.eq_zero_or_pos A.length with h | h
      · rw [List.eq_nil_of_length_eq_zero h] at h1
        simp [val] at h1
        omega
      · exact h
    have HBS := hid hb
    have hokA := ha.1
    have hokB := hb.1
    clear hlt hb
    rcases ha.2.2.2 with ⟨_, _⟩ | ⟨b1, o1, rfl, hltb, hcl⟩
    · omega
    clear ha
    go_wp2_with (at_make; go_must (refine wpList_make_full _ rfl _ _ 22 rfl w1.heap.size 55 i0 (.int .u32 0) 1 Tryz.underlying22 hi hz0 hz1 .i64 .i64 _ _ A.length rfl rfl (by omega) (by omega) (by rw [hz2]; omega) (by unfold maxLen; omega) (by simp) ?_); intro w2 hown hgrow; rw [made32] at hown; obtain ⟨hrow, _⟩ := rowAt_of_own hown; have hb2 : Below w1.heap.size w1 w2 := (Below.refl _ _).grown hgrow (Nat.le_refl _) (by simp); clear hown hgrow)
    have hW2 := below_call hb1 hb2 hb1.size
    go_loopw [7, 8] (fun rv iv wr => OutRel w w1.heap.size A B rv iv wr) (fun rv iv wr => (intOf iv + 1).toNat)
    case atStart =>
      have h0 : val A / 2 ^ (32 * A.length) = 0 := by rw [← pw_two]; exact Nat.div_eq_of_lt (val_lt hokA)
      exact ⟨A.length, _, Nat.le_refl _, rfl, ⟨none, 0, 0, [], rfl, rfl, ⟨ok_nil, by simp, by unfold maxLen; omega, .inl ⟨rfl, fun _ => rfl⟩⟩, by simp, canon_nil, by rw [Hid, h0, Nat.zero_mod]; rfl, hrow, by rw [Hid, List.length_replicate], ok_replicate _, by rw [Hid, h0, Nat.zero_div, Nat.zero_mul]; exact val_replicate _, hW2⟩, fun j hj => by simp [List.getD_eq_getElem?_getD, List.getElem?_replicate, hj]⟩
    case round =>
      obtain ⟨i, C, hiA, rfl, hS, hzero⟩ := hrel
      have HZ := hid hzero
      clear hzero hrow hb2
      by_cases hi0 : i = 0
      · subst hi0
        obtain ⟨ro, rc, rk, R, rfl, HRK, hsR, hfR, hcR, HVR, hrw, HL, hokC, HVC, hWr⟩ := hS
        have hwh := hrw.whole hokC (by rw [HL.out]; omega)
        rw [HL.out] at hwh
        have HWH := hid hwh
        have HSR := hid hsR
        have HCR := hid hcR
        have hii : ¬ (0 : Int) ≤ ((0 : Nat) : Int) - 1 := by omega
        clear hwh hfR hcR hsR HZ
        go_wp2_with fail
        refine (rtrim_k _ _ _ _ C HL.out.symm HWH.out).mono ?_
        rintro e w5 ⟨n, rfl, rfl, hn, hcn, hvn⟩
        have HF : Hid (RDm w A B (.returned (.tuple #[.slice (some ⟨w1.heap.size, 0, none⟩) n A.length, .slice ro rk rc])) w5) := hid
          ⟨some ⟨w1.heap.size, 0, none⟩, A.length, n, C.take n, ro, rc, rk, R, rfl, (take_len hn).symm, HRK, HWH.out.take n hn, HSR.out, hcn, HCR.out, by rw [hvn, HVC.out]; simp, by rw [HVR.out]; simp, by rw [take_len hn, ← HL.out]; exact hn, hWr⟩
        clear hn hcn hvn
        go_wp2
        refine bodyPost_ret (v := .tuple #[.slice (some ⟨w1.heap.size, 0, none⟩) n A.length, .slice ro rk rc]) ?_ rfl HF.out
        simp [results, Tryz.results62, go_sem]
      · have hii : (0 : Int) ≤ (i : Int) - 1 := by omega
        have HS := hid hS
        clear hS
        go_wp2
        rw [show decide (1 ≤ (i : Int)) = true from decide_eq_true (by omega)]
        go_loopw [7, 9] (fun rv kv wr => InRel w w1.heap.size A B (i - 1) rv kv wr) (fun rv kv wr => (intOf kv + 1).toNat)
        case atStart => exact ⟨32, C, Nat.le_refl _, rfl, by rw [show 32 * (i - 1) + 32 = 32 * i by omega]; exact HS.out, fun j hj => HZ.out j (by omega), 0, by rw [Nat.mul_zero]; exact HZ.out (i - 1) (by omega)⟩
        case round =>
          clear HZ HS C
          obtain ⟨k, C, hk, rfl, hS, hzero, hm⟩ := hrel
          obtain ⟨ro, rc, rk, R, rfl, HRK, hsR, hfR, hcR, HVR, hrw, HL, hokC, HVC, hWr⟩ := hS
          have HZ := hid hzero
          have HM := hid hm
          have HFR := hid hfR
          have HCR := hid hcR
          clear hzero hm hfR hcR
          by_cases hk0 : k = 0
          · subst hk0
            have hkk : ¬ (0 : Int) ≤ ((0 : Nat) : Int) - 1 := by omega
            have HO : Hid (OutRel w w1.heap.size A B (.slice ro rk rc) (.int .i64 (((i - 1 : Nat) : Int) - 1)) wr) := hid
              ⟨i - 1, C, by omega, rfl, ⟨ro, rc, rk, R, rfl, HRK, hsR, HFR.out, HCR.out, HVR, hrw, HL, hokC, HVC, hWr⟩, HZ.out⟩
            rw [show ((i - 1 : Nat) : Int) = (i : Int) - 1 by omega] at HO
            clear HRK hsR HFR HCR HVR hrw HL HVC HM HZ
            go_wp2
            go_roundw
            case rel => exact HO.out
            case measure => simp [intOf]; omega
          · have hkk : (0 : Int) ≤ (k : Int) - 1 := by omega
            have hx : wr.cell? ⟨b1, o1 + (i - 1), none⟩ = some (.int .u32 ((A.getD (i - 1) 0 : Nat) : Int)) := (hWr.cell (p := ⟨b1, o1 + (i - 1), none⟩) hltb).trans (hcl (i - 1) (by omega))
            have hxb := ok_getD hokA (i - 1)
            have HBT := hid (bit_at (i := i - 1) (k := k - 1) hokA (by omega) (by omega))
            obtain ⟨x, hxe⟩ : ∃ x, x = A.getD (i - 1) 0 := ⟨_, rfl⟩
            rw [← hxe] at hx hxb HBT
            have hxl : b1 < wr.heap.size := Nat.lt_of_lt_of_le hltb hWr.size
            clear hxe
            have HRL : Hid (R.length ≤ B.length) := hid (by
              have h1 := Nat.mod_lt (val A / 2 ^ (32 * (i - 1) + k)) HB0.out
              rw [← HVR.out] at h1
              by_cases h : R.length ≤ B.length
              · exact h
              · have := val_len_lt hokB HCR.out (by omega)
                omega)
            have HBI : Hid ((bits BinOp.and IntKind.u32 ((x : Int) / 2 ^ (k - 1)) 1 == 1) = decide (val A / 2 ^ (32 * (i - 1) + (k - 1)) % 2 = 1)) := hid (by
              have h0 : x / 2 ^ (k - 1) < 4294967296 := Nat.lt_of_le_of_lt (Nat.div_le_self _ _) hxb
              rw [show (x : Int) / 2 ^ (k - 1) = ((x / 2 ^ (k - 1) : Nat) : Int) by rw [Int.natCast_ediv, Int.natCast_pow]; rfl]
              have h1 := u32_and_nat (x / 2 ^ (k - 1)) 1 h0 (by omega)
              rw [show (((1 : Nat)) : Int) = 1 from rfl] at h1
              rw [h1, Nat.and_one_is_mod, HBT.out]
              generalize x / 2 ^ (k - 1) % 2 = z
              by_cases h : z = 1
              · subst h; rfl
              · rw [decide_eq_false h]
                have : ¬ ((z : Int) = 1) := by omega
                simpa using this)
            go_wp2_with fail
            rw [HBI.out]
            generalize hbit : decide (val A / 2 ^ (32 * (i - 1) + (k - 1)) % 2 = 1) = bit at *
            refine (rtwice_any _ ro rc rk R bit HRK.out hsR (by have := HRL.out; omega)).mono ?_
            rintro e w3 ⟨ro3, rc3, rk3, R3, rfl, HRK3, hsR3, hfR3, hcR3, hl3, hv3, hb3⟩
            have hW3 := below_call hWr hb3 hWr.size
            have hrw3 := hrw.below hb3
            have HV3 := hid hv3
            have HF3 := hid hfR3
            have HC3 := hid hcR3
            have hl3' : R3.length ≤ 400001 := by have := HRL.out; omega
            have hgl := hrw.lt
            clear hb3 hsR hv3 hfR3 hcR3 hx hl3
            go_wp2_with fail
            refine (rcmp_k _ ro3 rc3 rk3 R3 bo cb B.length B HRK3.out rfl hsR3 (HBS.out.below hW3) HC3.out HCB.out).mono ?_
            rintro e w4 ⟨rfl, hb4⟩
            have hW4 := below_call hW3 hb4 hW3.size
            have hrw4 := hrw3.below hb4
            have hsR4 := hsR3.below hb4
            clear hb4 hsR3 hrw3
            by_cases hge : val B ≤ val R3
            · have hcm4 : (0 : Int) ≤ cmpI (val R3 : Int) (val B : Int) := by
                unfold cmpI
                rw [if_neg (by omega)]
                split <;> omega
              have HGE3 := hid hge
              have HLB := hid (len_val_le hsR4.1 HCB.out hge)
              have HR0 : Hid (0 < R3.length) := hid (by
                have h2 := HB0.out
                rcases Nat.eq_zero_or_pos R3.length with h | h
                · rw [List.eq_nil_of_length_eq_zero h] at hge
                  simp [val] at hge
                  omega
                · exact h)
              clear hge
              go_wp2_with fail
              refine (rsub_k _ ro3 rc3 rk3 R3 bo cb B.length B HRK3.out rfl hsR4 (HBS.out.below hW4) (by omega) HLB.out HGE3.out HR0.out).mono ?_
              rintro e w5 ⟨ro5, rc5, rk5, R5, rfl, HRK5, hsR5, hfR5, hcR5, hl5, hv5, hb5⟩
              have hW5 := below_call hW4 hb5 hW4.size
              have hrw5 := hrw4.below hb5
              have hq5 : w5.cell? ⟨w1.heap.size, i - 1, none⟩ = some (.int .u32 ((C.getD (i - 1) 0 : Nat) : Int)) := hrw5.cell (i - 1) (by rw [HL.out]; omega)
              have hqf := hrw5.frozen (i - 1)
              have hqb := ok_getD hokC (i - 1)
              obtain ⟨y, hye⟩ : ∃ y, y = C.getD (i - 1) 0 := ⟨_, rfl⟩
              rw [← hye] at hq5 hqb
              have hql := hrw5.lt
              have HYE := hid hye
              have HV5 := hid hv5
              have HF5 := hid hfR5
              have HC5 := hid hcR5
              have hg4 : w1.heap.size < w4.heap.size := hrw4.lt
              have hsR6 := hsR5
              clear hye hb5 hsR4 hrw4 hv5 hfR5 hcR5
              obtain ⟨m, hm⟩ := HM.out
              have hpk : 2 ^ (k - 1) < 4294967296 := by
                have := Nat.pow_lt_pow_right (show 1 < 2 by omega) (show k - 1 < 32 by omega)
                simpa using this
              have hyv : y = 2 ^ (k - 1 + 1) * m := by rw [HYE.out, hm, show k - 1 + 1 = k by omega]
              have HOR : Hid (bits BinOp.or IntKind.u32 (y : Int) (2 ^ (k - 1) % 4294967296) = ((y + 2 ^ (k - 1) : Nat) : Int)) := hid (by
                have e : (2 : Int) ^ (k - 1) % 4294967296 = ((2 ^ (k - 1) : Nat) : Int) := by
                  have h : (2 : Int) ^ (k - 1) = ((2 ^ (k - 1) : Nat) : Int) := by simp
                  rw [h]
                  clear h
                  generalize (2 ^ (k - 1) : Nat) = z at hpk ⊢
                  omega
                rw [e, u32_or_nat _ _ hqb hpk, hyv, or_bit])
              have hlt2 : y + 2 ^ (k - 1) < 4294967296 := by
                rw [hyv, ← or_bit, ← hyv]
                exact Nat.or_lt_two_pow (n := 32) (by omega) (by omega)
              have HT := hid (dm_yes (t := val A / 2 ^ (32 * (i - 1) + (k - 1))) HB0.out (by
                have h1 := HGE3.out
                rw [HV3.out, HVR.out, bit_nat hbit, show 32 * (i - 1) + k = 32 * (i - 1) + (k - 1) + 1 by omega, half_pow] at h1
                exact h1))
              have HREL : Hid (InRel w w1.heap.size A B (i - 1) (.slice ro5 rk5 rc5) (.int .i64 (((k - 1 : Nat) : Int) - 1)) (w5.setCell ⟨w1.heap.size, i - 1, none⟩ (.int .u32 ((y + 2 ^ (k - 1) : Nat) : Int)))) := hid (by
                refine ⟨k - 1, C.set (i - 1) (y + 2 ^ (k - 1)), by omega, rfl, ⟨ro5, rc5, rk5, R5, rfl, HRK5, slAt_grow hsR6 (grow_set (grow_refl _ _) _ _) (fun ad e => ?_), fun ad e => ?_, HC5.out, ?_, hrw5.set _ _, by rw [Hid, List.length_set]; exact HL.out, ok_set hokC _ _ hlt2, ?_, hW5.setCell (by show w.heap.size ≤ w1.heap.size; exact hb1.size) _⟩, fun j hj => ?_, 2 * m + 1, ?_⟩
                · have := HF5.out ad e
                  omega
                · have := HF5.out ad e
                  omega
                · show val R5 = _
                  rw [HV5.out, HT.out.1, HV3.out, HVR.out, bit_nat hbit, show 32 * (i - 1) + k = 32 * (i - 1) + (k - 1) + 1 by omega, half_pow]
                · show val (C.set (i - 1) (y + 2 ^ (k - 1))) = _
                  rw [HYE.out]
                  exact dm_set (by rw [HL.out]; omega) (by rw [show 32 * (i - 1) + (k - 1) + 1 = 32 * (i - 1) + k by omega]; exact HVC.out) HT.out.2
                · rw [List.getD_eq_getElem?_getD, List.getElem?_set_ne (by omega), ← List.getD_eq_getElem?_getD]
                  exact HZ.out j hj
                · rw [List.getD_eq_getElem?_getD, List.getElem?_set_self (by rw [HL.out]; omega)]
                  show y + 2 ^ (k - 1) = _
                  rw [hyv, Nat.pow_succ, Nat.mul_add, Nat.mul_one, Nat.mul_assoc])
              rw [show ((k - 1 : Nat) : Int) = (k : Int) - 1 by omega] at HREL
              clear hyv hm hsR6 hpk hlt2
              go_wp2
              go_roundw
              case rel =>
                rw [HOR.out]
                exact HREL.out
              case measure => simp [intOf]; omega
            · have hcm4 : ¬ (0 : Int) ≤ cmpI (val R3 : Int) (val B : Int) := by
                rw [cmpI_lt (by omega)]
                omega
              have HT := hid (dm_no (t := val A / 2 ^ (32 * (i - 1) + (k - 1))) HB0.out (by
                have h1 := hge
                rw [HV3.out, HVR.out, bit_nat hbit, show 32 * (i - 1) + k = 32 * (i - 1) + (k - 1) + 1 by omega, half_pow] at h1
                exact h1))
              have hg4 : w1.heap.size < w4.heap.size := hrw4.lt
              have HREL : Hid (InRel w w1.heap.size A B (i - 1) (.slice ro3 rk3 rc3) (.int .i64 (((k - 1 : Nat) : Int) - 1)) w4) := hid (by
                refine ⟨k - 1, C, by omega, rfl, ⟨ro3, rc3, rk3, R3, rfl, HRK3, hsR4, fun ad e => ?_, HC3.out, ?_, hrw4, HL, hokC, ?_, hW4⟩, HZ.out, ?_⟩
                · have := HF3.out ad e
                  omega
                · show val R3 = _
                  rw [HT.out.1, HV3.out, HVR.out, bit_nat hbit, show 32 * (i - 1) + k = 32 * (i - 1) + (k - 1) + 1 by omega, half_pow]
                · show val C = _
                  exact dm_keep (by rw [show 32 * (i - 1) + (k - 1) + 1 = 32 * (i - 1) + k by omega]; exact HVC.out) HT.out.2
                · obtain ⟨m, hm⟩ := HM.out
                  exact ⟨2 * m, by rw [hm]; conv => lhs; rw [show k = k - 1 + 1 by omega, Nat.pow_succ, Nat.mul_assoc]⟩)
              rw [show ((k - 1 : Nat) : Int) = (k : Int) - 1 by omega] at HREL
              clear hge hrw4 hsR4
              go_wp2
              go_roundw
              case rel => exact HREL.out
              case measure => simp [intOf]; omega

end Go.Proofs.YtogdchddmjokmaaGreatDoor

namespace Go.Proofs.YtogdchddmjokmaaGreatDoor
open Go.RowKit Lm
set_option linter.unusedSimpArgs false
set_option linter.unusedVariables false
set_option maxRecDepth 100000

/-- What stands at the head of a round of the document's Gcd. -/
def RGRel (w : World) (N G m : Nat) (xv yv : Value) (wr : World) : Prop :=
  ∃ ao1 ca1 ka1 l1 bo1 cb1 kb1 l2, xv = .slice ao1 ka1 ca1 ∧ yv = .slice bo1 kb1 cb1 ∧ Hid (ka1 = l1.length) ∧ Hid (kb1 = l2.length) ∧ m = val l2 ∧ SlAt wr ao1 ca1 l1 ∧ SlAt wr bo1 cb1 l2 ∧ canon l1 ∧ canon l2 ∧ l1.length ≤ N ∧ l2.length ≤ N ∧ Hid (Nat.gcd (val l1) (val l2) = G) ∧
    Box wr (w.heap.size + 1 + 1) (.bool false) (.slice none 0 0) ∧ Below w.heap.size w wr

theorem len_of_mod {R B : List Nat} {a N : Nat} (cR : canon R) (oB : ok B) (h : val R = a % val B) (hB : 0 < val B) (hN : B.length ≤ N) : R.length ≤ N := by
  have h1 := Nat.mod_lt a hB
  by_cases hl : R.length ≤ B.length
  · omega
  · have := val_len_lt oB cR (by omega)
    omega

set_option maxHeartbeats 3200000 in
theorem rgcd_num (w : World) (u v : Value) (n m : Nat) (x y : Int) (hx : Arg w u n x) (hy : Arg w v m y) (hn : n ≤ 200000) (hm : m ≤ 200000) :
    Calls Tryz.prog 40 #[u, v] w (Told w.heap.size (n + m) ((Nat.gcd x.natAbs y.natAbs : Nat) : Int) w) := by
  have HX := hid hx
  have HY := hid hy
  obtain ⟨n1, s1, l1, rfl, -⟩ := hx
  obtain ⟨n2, s2, l2, rfl, -⟩ := hy
  go_enter Tryz.func40, Tryz.ntmps40
  go_wp2
  have hl := laid3 w n1 s1 n2 s2
  unfold Laid3 at hl
  generalize ((w.alloc (.cells #[.bool n1, s1] 24)).alloc (.cells #[.bool n2, s2] 24)).alloc (.cells #[.bool false, .slice none 0 0] 24) = W at *
  obtain ⟨hsz, b1, b2, b3, hbl⟩ := hl
  have HB1 := hid b1
  have HB2 := hid b2
  have HB3 := hid (b3 (w.heap.size + 1 + 1) (by omega) (by omega))
  clear b1 b2 b3
  have hW := hbl.drew
  have hst : Below W.heap.size W W.drew := (Below.refl _ _).drew
  go_region_held3 (fun w' => (w'.cell? ⟨w.heap.size, 0, none⟩ = some (.bool n1) ∧ w'.cell? ⟨w.heap.size, 1, none⟩ = some s1 ∧ w'.cell? ⟨w.heap.size + 1, 0, none⟩ = some (.bool n2) ∧ w'.cell? ⟨w.heap.size + 1, 1, none⟩ = some s2)) (exact keep2 (HB1.out.keep hst) (HB2.out.keep hst)) (first
    | (go_at_call_of 49 (Value.agg #[Value.bool n1, s1]); go_must (refine (rnorm_h w _ _ n x HX.out (by exact hW)).mono ?_); rintro e w1 ⟨neg1, ao1, cap1, k1, l1, rfl, HK1, HC1, hb1⟩; have hWn := below_call hW hb1 hW.size; have hsn := below_call hst hb1 hst.size; clear hW hst hb1; have hW := hWn; have hst := hsn; clear hWn hsn)
    | (go_at_call_of 49 (Value.agg #[Value.bool n2, s2]); go_must (refine (rnorm_h w _ _ m y HY.out (by exact hW)).mono ?_); rintro e w2 ⟨neg2, ao2, cap2, k2, l2, rfl, HK2, HC2, hb2⟩; have hWn := below_call hW hb2 hW.size; have hsn := below_call hst hb2 hst.size; clear hW hst hb2; have hW := hWn; have hst := hsn; clear hWn hsn))
  have HBR := hid (HB3.out.keep hst)
  have HG : Hid (Nat.gcd (val l1) (val l2) = Nat.gcd x.natAbs y.natAbs) := hid (by rw [HC1.2.2.2, HC2.2.2.2, sgn_abs, sgn_abs])
  have hl1 := HC1.2.1
  have hl2 := HC2.2.1
  have HS1 := hid (HC1.1.below hW)
  have HS2 := hid (HC2.1.below hW)
  have HM1 := hid (may_canon HC1.2.2.1)
  have HM2 := hid (may_canon HC2.2.2.1)
  have HWW := hid hW
  clear HC1 HC2 HB1 HB2 HB3 hst hW HX HY
  go_wp2
  go_loopg [5, 6] (val l2) (fun q xv yv wr => RGRel w (n + m) (Nat.gcd x.natAbs y.natAbs) q xv yv wr)
  case atStart => exact ⟨ao1, cap1, k1, l1, ao2, cap2, k2, l2, rfl, rfl, HK1, HK2, rfl, HS1.out, HS2.out, HM1.out, HM2.out, by omega, by omega, HG, HBR.out, HWW.out⟩
  case round =>
    clear HK1 HK2 HS1 HS2 HM1 HM2 HG HBR HWW
    obtain ⟨a1, e1, j1, r1, a2, e2, j2, r2, rfl, rfl, HJ1, HJ2, hgk, h1, h2, hc1, hc2, hr1, hr2, HG, bR, hbw⟩ := hrel
    have HGK := hid hgk
    have hj1 : j1 ≤ 9223372036854775807 := by have a := h1.2.1; have b := h1.2.2.1; have c := HJ1.out; unfold maxLen at b; omega
    have hj2 : j2 ≤ 9223372036854775807 := by have a := h2.2.1; have b := h2.2.2.1; have c := HJ2.out; unfold maxLen at b; omega
    have HC1 := hid hc1
    have HC2 := hid hc2
    clear hgk hc1 hc2
    by_cases hk0 : j2 = 0
    · have HF : Hid (((Nat.gcd x.natAbs y.natAbs : Nat) : Int) = sgn false (val r1)) := hid (by
        rw [← HG.out, List.eq_nil_of_length_eq_zero (HJ2.out.symm.trans hk0)]
        simp [val, sgn])
      rw [hk0]
      clear hj2
      go_wp2_with fail
      refine (rmk_k _ false a1 e1 j1 r1 HJ1.out h1 (by omega)).mono ?_
      rintro e w3 ⟨n3, a3, k3, c3, rfl, HI, hb3⟩
      have hz := bR.lt
      have bR3 := bR.keep hb3
      have hW3 := below_call hbw hb3 hbw.size
      have x0 := bR3.c0
      have x1 := bR3.c1
      have xf := bR3.f
      clear hb3
      go_wp2
      refine bodyPost_ret (v := .agg #[.bool n3, .slice a3 k3 c3]) ?_ rfl ⟨n3, a3, k3, c3, rfl, ?_, (hW3.setCell (by show w.heap.size ≤ w.heap.size + 1 + 1; omega) _).setCell (by show w.heap.size ≤ w.heap.size + 1 + 1; omega) _⟩
      · simp [results, Tryz.results40, go_sem, x0, x1]
      · rw [HF.out]
        exact ((HI.out.setCell (by show w.heap.size + 1 + 1 < _; omega) _).setCell (by show w.heap.size + 1 + 1 < _; omega) _).mono (by omega) (by omega)
    · have hkp : (0 : Int) < (j2 : Int) := by omega
      have HVP : Hid (0 < val r2) := hid (by
        rcases Nat.eq_zero_or_pos (val r2) with h | h
        · have := val_eq_zero HC2.out h
          rw [this] at HJ2
          exact absurd HJ2.out hk0
        · exact h)
      go_wp2_with fail
      refine (rdivmod_any _ a1 e1 j1 r1 a2 e2 j2 r2 HJ1.out HJ2.out h1 h2 HC1.out HC2.out (by omega) (by omega) HVP.out).mono ?_
      rintro e w3 ⟨qo, qc, qk, Q, ro, rc, rk, R, rfl, HQK, HRK, hsQ, hsR, hcQ, hcR, hvQ, hvR, hlQ, hb3⟩
      have hW3 := below_call hbw hb3 hbw.size
      have bR3 := bR.keep hb3
      have HREL : Hid (RGRel w (n + m) (Nat.gcd x.natAbs y.natAbs) (val R) (.slice a2 j2 e2) (.slice ro rk rc) w3) := hid
        ⟨a2, e2, j2, r2, ro, rc, rk, R, rfl, rfl, HJ2, HRK, rfl, h2.below hb3, hsR, HC2.out, hcR, hr2, len_of_mod hcR h2.1 hvR HVP.out hr2, by rw [Hid, hvR, Nat.gcd_comm, ← Nat.gcd_rec, Nat.gcd_comm]; exact HG.out, bR3, hW3⟩
      have HLT : Hid (val R < val r2) := hid (by rw [hvR]; exact Nat.mod_lt _ HVP.out)
      clear hb3 hsQ hsR hcQ hcR hvQ hvR hlQ bR3
      go_wp2
      go_roundg (val R)
      case rel => exact HREL.out
      case measure => rw [HGK.out]; exact HLT.out

theorem Box.off2s {W : World} {g h : Nat} {p q : Value} (b : Box W g p q) (hne : g ≠ h) (u v : Value) : Box ((W.setCell ⟨h, 0, none⟩ u).setCell ⟨h, 1, none⟩ v) g p q := (b.other hne u).other hne v

/-- What the document's Div has laid and counted: both numbers in their boxes. -/
def RDLaid (w : World) (n m : Nat) (x y : Int) (neg1 : Bool) (ao1 : Option Addr) (k1 cap1 : Nat) (l1 : List Nat) (neg2 : Bool) (ao2 : Option Addr) (k2 cap2 : Nat) (l2 : List Nat) (W : World) : Prop :=
  Hid (k1 = l1.length) ∧ Hid (k2 = l2.length) ∧ Cnt w n x neg1 ao1 cap1 l1 ∧ Cnt w m y neg2 ao2 cap2 l2 ∧ Box W w.heap.size (.bool neg1) (.slice ao1 k1 cap1) ∧ Box W (w.heap.size + 1) (.bool neg2) (.slice ao2 k2 cap2) ∧ Box W (w.heap.size + 1 + 1) (.bool false) (.slice none 0 0) ∧ Box W (w.heap.size + 1 + 1 + 1) (.bool false) (.slice none 0 0) ∧ Below w.heap.size w W

end Go.Proofs.YtogdchddmjokmaaGreatDoor

namespace Go.Proofs.YtogdchddmjokmaaGreatDoor
open Go.RowKit Lm
set_option linter.unusedSimpArgs false
set_option linter.unusedVariables false
set_option maxRecDepth 100000

end Go.Proofs.YtogdchddmjokmaaGreatDoor
