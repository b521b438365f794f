/-
  Walks: the document's own twice.
-/
import Derived.Test.YtiicjfacekldnaaR7
import Derived.Test.YtiicjfacekldnaaW20
namespace Go.Proofs.Ytiicjfacekldnaa
open Go.RowKit Lm
set_option linter.unusedSimpArgs false
set_option linter.unusedVariables false
set_option maxRecDepth 100000

theorem two_limb {x c : Nat} (hc : c ≤ 1) : (2 * x % 4294967296) ||| c = 2 * x % 4294967296 + c := by
  rcases (show c = 0 ∨ c = 1 by omega) with rfl | rfl
  · simp
  · obtain ⟨y, hy⟩ : ∃ y, 2 * x % 4294967296 = 2 * y := ⟨2 * x % 4294967296 / 2, by omega⟩
    rw [hy]
    have := Nat.two_pow_add_eq_or_of_lt (i := 1) (b := 1) (by omega) y
    simpa using this.symm
theorem two_step {A O : List Nat} {k c o s c' : Nat} (hO : O.length = k) (hk : k < A.length) (hv : val O + pw k * c = 2 * val (A.take k) + o) (hs : s + 4294967296 * c' = 2 * A.getD k 0 + c) :
    val (O ++ [s]) + pw (k + 1) * c' = 2 * val (A.take (k + 1)) + o := by
  rw [val_append, hO, val_take_next, pw_succ_mul]
  have e : val [s] = s := by simp [val]
  rw [e]
  have h1 := congrArg (pw k * ·) hs
  simp only [Nat.mul_add] at h1
  have h2 : pw k * (2 * A.getD k 0) = 2 * (pw k * A.getD k 0) := by rw [Nat.mul_left_comm]
  omega

/-- What stands at the head of a round of twice. -/
def TwRel (w : World) (A : List Nat) (o : Nat) (ov cv iv : Value) (wr : World) : Prop :=
  ∃ (k c : Nat) (O : List Nat), iv = .int .i64 (k : Int) ∧ cv = .int .u32 (c : Int) ∧ c ≤ 1 ∧ O.length = k ∧ k ≤ A.length ∧
    wr.ownsRow w.heap.size 75 1 ov O.length (U O) ∧ ok O ∧ val O + pw k * c = 2 * val (A.take k) + o ∧ Below w.heap.size w wr

set_option maxHeartbeats 3200000 in
theorem rtwice_any (w : World) (ao : Option Addr) (ca ka : Nat) (A : List Nat) (one : Bool) (hka : ka = A.length) (ha : SlAt w ao ca A) (hN : A.length ≤ 1000000) :
    Calls Try.prog 109 #[.slice ao ka ca, .bool one] w (RMade w (A.length + 1) (2 * val A + (if one then 1 else 0))) := by
  subst hka
  have ha3 := ha.2.2.1
  unfold maxLen at ha3
  have hla := ha.2.1
  obtain ⟨i0, hi, hz0, hz1, hz2⟩ := info_parts Try.info32
  obtain ⟨o, ho⟩ : ∃ o : Nat, o = (if one then 1 else 0) := ⟨_, rfl⟩
  have HOO := hid ho
  rw [← ho]
  have key : ∀ (cv : Nat), cv = o → TwRel w A o (.slice none 0 0) (.int .u32 (cv : Int)) (.int .i64 0) w := by
    intro cv hcv
    subst hcv
    exact ⟨0, cv, [], rfl, rfl, by rw [HOO.out]; split <;> omega, rfl, Nat.zero_le _, World.ownsRow_nil _ _ _ _, ok_nil, by simp [val, pw], Below.refl _ _⟩
  have HK := hid key
  clear key ho
  go_enter Try.func109, Try.ntmps109
  cases one
  all_goals
    go_wp2
    go_loopw [5, 6, 7] (fun ov cv iv wr => TwRel w A o ov cv iv wr) (fun ov cv iv wr => A.length + 1 - (intOf iv).toNat)
    case atStart => exact HK.out _ (by rw [HOO.out]; rfl)
    case round =>
      clear HK HOO
      obtain ⟨k, c, O, rfl, rfl, hc, hO, hk, hown, hokO, hv, hbw⟩ := hrel
      have HO := hid hO
      have HV := hid hv
      clear hv hO
      have hkO : O.length ≤ 3000000 := by rw [HO.out]; omega
      by_cases hlt : k < A.length
      · obtain ⟨x, hxe⟩ : ∃ x, x = A.getD k 0 := ⟨_, rfl⟩
        have hxb := ok_getD ha.1 k
        rw [← hxe] at hxb
        rcases ha.2.2.2 with ⟨_, _⟩ | ⟨b1, o1, rfl, hltb, hcl⟩
        · omega
        have hc1 : wr.cell? ⟨b1, o1 + k, none⟩ = some (.int .u32 (x : Int)) := by rw [hxe]; exact (hbw.cell (p := ⟨b1, o1 + k, none⟩) hltb).trans (hcl k hlt)
        have HX := hid hxe
        have HL := hid (two_limb (x := x) hc)
        have hcb : b1 < wr.heap.size := Nat.lt_of_lt_of_le hltb hbw.size
        clear hxe hcl
        have HBI : Hid (bits BinOp.or IntKind.u32 ((x : Int) * 2 % 4294967296) (c : Int) = ((2 * x % 4294967296 + c : Nat) : Int)) := hid (by
          rw [show (x : Int) * 2 % 4294967296 = ((2 * x % 4294967296 : Nat) : Int) by omega, u32_or_nat _ _ (by omega) (by omega), HL.out])
        go_wp2_with (at_builtin; go_must (refine wpList_append_own _ rfl _ _ 22 rfl w.heap.size 75 i0 (.int .u32 0) 1 4 Try.underlying22 hi hz0 hz1 hz2 rfl (by decide) _ _ _ rfl (hown.alloc _) ⟨wr.heap.size, 0, none⟩ 1 1 [.int .u32 (bits BinOp.or IntKind.u32 ((x : Int) * 2 % 4294967296) (c : Int))] rfl rfl ?_ ?_ ?_ ?_ ?_ ?_))
        · intro q u hq
          match q, hq with
          | 0, hq => simp at hq; subst hq; simp [Addr.add]
        · intro u hu; simp at hu; subst hu; rfl
        · unfold maxLen; omega
        · omega
        · have := hbw.size; simp; omega
        · intro v' w5 hown5 hgrow _
          have hb5 : Below w.heap.size w w5 := (hbw.alloc hbw.size _).grown hgrow (by simp; have := hbw.size; omega) (fun q e => (hown.lt _ e).1)
          rw [u_snoc O _ (2 * x % 4294967296 + c) HBI.out] at hown5
          have HO5 := hid hown5
          have hc5 : w5.cell? ⟨b1, o1 + k, none⟩ = some (.int .u32 (x : Int)) := by
            have h1 := hb5.cell (p := ⟨b1, o1 + k, none⟩) hltb
            have h2 := hbw.cell (p := ⟨b1, o1 + k, none⟩) hltb
            rw [h1, ← h2]
            exact hc1
          have hcb5 : b1 < w5.heap.size := Nat.lt_of_lt_of_le hltb hb5.size
          clear hown5 hgrow hown hc1
          go_wp2
          go_roundw
          case rel =>
            refine ⟨k + 1, x / 2147483648, O ++ [2 * x % 4294967296 + c], by go_num, by go_num, by omega, by rw [List.length_append, HO.out]; rfl, by omega, by rw [List.length_append]; exact HO5.out, ok_append.2 ⟨hokO, by rw [ok_cons]; exact ⟨by omega, ok_nil⟩⟩, ?_, hb5⟩
            exact two_step HO.out hlt HV.out (by rw [← HX.out]; omega)
          case measure => simp [intOf]; omega
      · have hkA : k = A.length := by omega
        have HVF : Hid (val (O ++ [c]) = 2 * val A + o) := hid (by
          have := HV.out
          rw [hkA, List.take_length] at this
          rw [val_append, HO.out, hkA]
          simpa [val] using this)
        have HLF : Hid ((O ++ [c]).length = A.length + 1) := hid (by rw [List.length_append, HO.out, hkA]; rfl)
        have hli : ¬ (k : Int) < (A.length : Int) := by omega
        clear hkA
        have hbs := hbw.size
        go_wp2_with (at_builtin; go_must (refine wpList_append_own _ rfl _ _ 22 rfl w.heap.size 75 i0 (.int .u32 0) 1 4 Try.underlying22 hi hz0 hz1 hz2 rfl (by decide) _ _ _ rfl (hown.alloc _) ⟨wr.heap.size, 0, none⟩ 1 1 [.int .u32 ((c : Int))] rfl rfl ?_ ?_ ?_ ?_ ?_ ?_))
        any_goals (first | rfl | (unfold maxLen; omega) | omega | skip)
        · intro v' w5 hown5 hgrow _
          have hb5 : Below w.heap.size w w5 := (hbw.alloc hbw.size _).grown hgrow (by simp; have := hbw.size; omega) (fun q e => (hown.lt _ e).1)
          rw [u_snoc O _ c rfl] at hown5
          have hok5 : ok (O ++ [c]) := ok_append.2 ⟨hokO, by rw [ok_cons]; exact ⟨by omega, ok_nil⟩⟩
          clear hgrow hown hokO HV
          rw [show O.length + 1 = (O ++ [c]).length by simp] at hown5
          generalize O ++ [c] = C at *
          obtain ⟨ao2, cap2, rfl, hfr⟩ := own_shape hown5
          have hs := own_slAt hown5 hok5
          have hcm := hs.2.2.1
          unfold maxLen at hcm
          have Hs := hid hs
          have HF := hid hfr
          clear hown5 hs hfr
          go_wp2_with fail
          refine (rtrim_any _ ao2 cap2 C Hs.out).mono ?_
          rintro e w3 ⟨n, rfl, rfl, hn, hcn, hvn⟩
          have HVN := hid hvn
          clear hvn
          go_wp2
          go_ret
          exact ⟨ao2, cap2, n, C.take n, rfl, (take_len hn).symm, Hs.out.take n hn, HF.out, hcn, by rw [take_len hn]; have := HLF.out; omega, by rw [HVN.out, HVF.out], hb5⟩

end Go.Proofs.Ytiicjfacekldnaa
