/-
  Walks: the document's own quotients of limbs.
-/
import Derived.Test.YtiicjfacekldnaaBit
namespace Go.Proofs.Ytiicjfacekldnaa
open Go.RowKit Lm
set_option linter.unusedSimpArgs false
set_option linter.unusedVariables false
set_option maxRecDepth 100000

/-- What is known while the bits are gone through: p of them are left. -/
def DmS (w : World) (g : Nat) (A B : List Nat) (p : Nat) (C : List Nat) (rv : Value) (wr : World) : Prop :=
  ∃ ro rc rk R, rv = .slice ro rk rc ∧ Hid (rk = R.length) ∧ SlAt wr ro rc R ∧ (∀ ad, ro = some ad → g < ad.block) ∧ canon R ∧ Hid (val R = val A / 2 ^ p % val B) ∧ RowAt wr g C ∧ Hid (C.length = A.length) ∧ ok C ∧ Hid (val C = val A / 2 ^ p / val B * 2 ^ p) ∧ Below w.heap.size w wr

theorem rtrim_k (w : World) (ao : Option Addr) (cap k : Nat) (l : List Nat) (hk : k = l.length) (h : SlAt w ao cap l) :
    Calls Try.prog 111 #[.slice ao k cap] w fun e w' => ∃ n, e = .returned (.slice ao n cap) ∧ w' = w ∧ n ≤ l.length ∧ canon (l.take n) ∧ val (l.take n) = val l := by
  subst hk
  exact rtrim_any w ao cap l h
theorem dm_set {a b i k : Nat} {C : List Nat} (hl : i < C.length) (hV : val C = a / 2 ^ (32 * i + k + 1) / b * 2 ^ (32 * i + k + 1)) (ht : a / 2 ^ (32 * i + k) / b = 2 * (a / 2 ^ (32 * i + k) / 2 / b) + 1) : val (C.set i (C.getD i 0 + 2 ^ k)) = a / 2 ^ (32 * i + k) / b * 2 ^ (32 * i + k) := by
  rw [val_setAdd hl, hV, ht, half_pow, pw_two, ← Nat.pow_add, Nat.pow_succ, Nat.add_mul, Nat.one_mul]
  rw [Nat.mul_comm (2 ^ (32 * i + k)) 2, ← Nat.mul_assoc, Nat.mul_comm _ 2]
theorem dm_keep {a b p : Nat} {C : List Nat} (hV : val C = a / 2 ^ (p + 1) / b * 2 ^ (p + 1)) (ht : a / 2 ^ p / b = 2 * (a / 2 ^ p / 2 / b)) : val C = a / 2 ^ p / b * 2 ^ p := by
  rw [hV, ht, half_pow, Nat.pow_succ, Nat.mul_comm (2 ^ p) 2, ← Nat.mul_assoc, Nat.mul_comm _ 2]
theorem bit_nat {t : Nat} {bit : Bool} (h : decide (t % 2 = 1) = bit) : (if bit then 1 else 0) = t % 2 := by
  subst h
  by_cases h : t % 2 = 1
  · rw [decide_eq_true h]; simp [h]
  · rw [decide_eq_false h]; simp; omega

/-- What stands at the heads of the two loops. -/
def OutRel (w : World) (g : Nat) (A B : List Nat) (rv iv : Value) (wr : World) : Prop :=
  ∃ (i : Nat) (C : List Nat), i ≤ A.length ∧ iv = .int .i64 ((i : Int) - 1) ∧ DmS w g A B (32 * i) C rv wr ∧ ∀ j, j < i → C.getD j 0 = 0
def InRel (w : World) (g : Nat) (A B : List Nat) (i : Nat) (rv kv : Value) (wr : World) : Prop :=
  ∃ (k : Nat) (C : List Nat), k ≤ 32 ∧ kv = .int .i64 ((k : Int) - 1) ∧ DmS w g A B (32 * i + k) C rv wr ∧ (∀ j, j < i → C.getD j 0 = 0) ∧ ∃ m, C.getD i 0 = 2 ^ k * m

/-- A quotient and its rest have been told. -/
def RDm (w : World) (A B : List Nat) (e : Ending) (w' : World) : Prop :=
  ∃ qo qc qk Q ro rc rk R, e = .returned (.tuple #[.slice qo qk qc, .slice ro rk rc]) ∧ Hid (qk = Q.length) ∧ Hid (rk = R.length) ∧ SlAt w' qo qc Q ∧ SlAt w' ro rc R ∧ canon Q ∧ canon R ∧ val Q = val A / val B ∧ val R = val A % val B ∧ Q.length ≤ A.length ∧ Below w.heap.size w w'

set_option maxHeartbeats 6400000 in
theorem rdivmod_any (w : World) (ao : Option Addr) (ca ka : Nat) (A : List Nat) (bo : Option Addr) (cb kb : Nat) (B : List Nat) (hka : ka = A.length) (hkb : kb = B.length) (ha : SlAt w ao ca A) (hb : SlAt w bo cb B) (hca : canon A) (hcb : canon B) (hN : A.length ≤ 400000) (hM : B.length ≤ 400000) (hB : 0 < val B) :
    Calls Try.prog 69 #[.slice ao ka ca, .slice bo kb cb] w (RDm w A B) := by
  subst hka hkb
  have ha3 := ha.2.2.1
  have hb3 := hb.2.2.1
  unfold maxLen at ha3 hb3
  have hla := ha.2.1
  have hlb := hb.2.1
  obtain ⟨i0, hi, hz0, hz1, hz2⟩ := info_parts Try.info32
  go_enter Try.func69, Try.ntmps69
  go_wp2_with fail
  refine (rcmp_any _ ao ca A bo cb B ha hb hca hcb).mono ?_
  rintro e w1 ⟨rfl, hb1⟩
  have HCA := hid hca
  have HCB := hid hcb
  have HB0 := hid hB
  clear hca hcb hB
  by_cases hlt : (val A : Int) < (val B : Int)
  · rw [cmpI_lt hlt]
    have HF : Hid (RDm w A B (.returned (.tuple #[.slice none 0 0, .slice ao A.length ca])) w1) := hid
      ⟨none, 0, 0, [], ao, ca, A.length, A, rfl, rfl, rfl, ⟨ok_nil, by simp, by unfold maxLen; omega, .inl ⟨rfl, fun _ => rfl⟩⟩, ha.below hb1, canon_nil, HCA.out, by rw [Nat.div_eq_of_lt (by omega)]; rfl, by rw [Nat.mod_eq_of_lt (by omega)], by simp, hb1⟩
    clear hlt
    go_wp2
    refine bodyPost_ret (v := .tuple #[.slice none 0 0, .slice ao A.length ca]) ?_ rfl HF.out
    simp [results, Try.results69, go_sem]
  · have hcm : ¬ cmpI (val A : Int) (val B : Int) < 0 := by
      unfold cmpI
      rw [if_neg hlt]
      split <;> omega
    have HGE : Hid (val B ≤ val A) := hid (by omega)
    have hA0 : 0 < A.length := by
      have h1 := HGE.out
      have h2 := HB0.out
      rcases Nat.eq_zero_or_pos A.length with h | h
      · rw [List.eq_nil_of_length_eq_zero h] at h1
        simp [val] at h1
        omega
      · exact h
    have HBS := hid hb
    have hokA := ha.1
    have hokB := hb.1
    clear hlt hb
    rcases ha.2.2.2 with ⟨_, _⟩ | ⟨b1, o1, rfl, hltb, hcl⟩
    · omega
    clear ha
    go_wp2_with (at_make; go_must (refine wpList_make_full _ rfl _ _ 22 rfl w1.heap.size 75 i0 (.int .u32 0) 1 Try.underlying22 hi hz0 hz1 .i64 .i64 _ _ A.length rfl rfl (by omega) (by omega) (by rw [hz2]; omega) (by unfold maxLen; omega) (by simp) ?_); intro w2 hown hgrow; rw [made32] at hown; obtain ⟨hrow, _⟩ := rowAt_of_own hown; have hb2 : Below w1.heap.size w1 w2 := (Below.refl _ _).grown hgrow (Nat.le_refl _) (by simp); clear hown hgrow)
    have hW2 := below_call hb1 hb2 hb1.size
    go_loopw [7, 8] (fun rv iv wr => OutRel w w1.heap.size A B rv iv wr) (fun rv iv wr => (intOf iv + 1).toNat)
    case atStart =>
      have h0 : val A / 2 ^ (32 * A.length) = 0 := by rw [← pw_two]; exact Nat.div_eq_of_lt (val_lt hokA)
      exact ⟨A.length, _, Nat.le_refl _, rfl, ⟨none, 0, 0, [], rfl, rfl, ⟨ok_nil, by simp, by unfold maxLen; omega, .inl ⟨rfl, fun _ => rfl⟩⟩, by simp, canon_nil, by rw [Hid, h0, Nat.zero_mod]; rfl, hrow, by rw [Hid, List.length_replicate], ok_replicate _, by rw [Hid, h0, Nat.zero_div, Nat.zero_mul]; exact val_replicate _, hW2⟩, fun j hj => by simp [List.getD_eq_getElem?_getD, List.getElem?_replicate, hj]⟩
    case round =>
      obtain ⟨i, C, hiA, rfl, hS, hzero⟩ := hrel
      have HZ := hid hzero
      clear hzero hrow hb2
      by_cases hi0 : i = 0
      · subst hi0
        obtain ⟨ro, rc, rk, R, rfl, HRK, hsR, hfR, hcR, HVR, hrw, HL, hokC, HVC, hWr⟩ := hS
        have hwh := hrw.whole hokC (by rw [HL.out]; omega)
        rw [HL.out] at hwh
        have HWH := hid hwh
        have HSR := hid hsR
        have HCR := hid hcR
        have hii : ¬ (0 : Int) ≤ ((0 : Nat) : Int) - 1 := by omega
        clear hwh hfR hcR hsR HZ
        go_wp2_with fail
        refine (rtrim_k _ _ _ _ C HL.out.symm HWH.out).mono ?_
        rintro e w5 ⟨n, rfl, rfl, hn, hcn, hvn⟩
        have HF : Hid (RDm w A B (.returned (.tuple #[.slice (some ⟨w1.heap.size, 0, none⟩) n A.length, .slice ro rk rc])) w5) := hid
          ⟨some ⟨w1.heap.size, 0, none⟩, A.length, n, C.take n, ro, rc, rk, R, rfl, (take_len hn).symm, HRK, HWH.out.take n hn, HSR.out, hcn, HCR.out, by rw [hvn, HVC.out]; simp, by rw [HVR.out]; simp, by rw [take_len hn, ← HL.out]; exact hn, hWr⟩
        clear hn hcn hvn
        go_wp2
        refine bodyPost_ret (v := .tuple #[.slice (some ⟨w1.heap.size, 0, none⟩) n A.length, .slice ro rk rc]) ?_ rfl HF.out
        simp [results, Try.results69, go_sem]
      · have hii : (0 : Int) ≤ (i : Int) - 1 := by omega
        have HS := hid hS
        clear hS
        go_wp2
        rw [show decide (1 ≤ (i : Int)) = true from decide_eq_true (by omega)]
        go_loopw [7, 9] (fun rv kv wr => InRel w w1.heap.size A B (i - 1) rv kv wr) (fun rv kv wr => (intOf kv + 1).toNat)
        case atStart => exact ⟨32, C, Nat.le_refl _, rfl, by rw [show 32 * (i - 1) + 32 = 32 * i by omega]; exact HS.out, fun j hj => HZ.out j (by omega), 0, by rw [Nat.mul_zero]; exact HZ.out (i - 1) (by omega)⟩
        case round =>
          clear HZ HS C
          obtain ⟨k, C, hk, rfl, hS, hzero, hm⟩ := hrel
          obtain ⟨ro, rc, rk, R, rfl, HRK, hsR, hfR, hcR, HVR, hrw, HL, hokC, HVC, hWr⟩ := hS
          have HZ := hid hzero
          have HM := hid hm
          have HFR := hid hfR
          have HCR := hid hcR
          clear hzero hm hfR hcR
          by_cases hk0 : k = 0
          · subst hk0
            have hkk : ¬ (0 : Int) ≤ ((0 : Nat) : Int) - 1 := by omega
            have HO : Hid (OutRel w w1.heap.size A B (.slice ro rk rc) (.int .i64 (((i - 1 : Nat) : Int) - 1)) wr) := hid
              ⟨i - 1, C, by omega, rfl, ⟨ro, rc, rk, R, rfl, HRK, hsR, HFR.out, HCR.out, HVR, hrw, HL, hokC, HVC, hWr⟩, HZ.out⟩
            rw [show ((i - 1 : Nat) : Int) = (i : Int) - 1 by omega] at HO
            clear HRK hsR HFR HCR HVR hrw HL HVC HM HZ
            go_wp2
            go_roundw
            case rel => exact HO.out
            case measure => simp [intOf]; omega
          · have hkk : (0 : Int) ≤ (k : Int) - 1 := by omega
            have hx : wr.cell? ⟨b1, o1 + (i - 1), none⟩ = some (.int .u32 ((A.getD (i - 1) 0 : Nat) : Int)) := (hWr.cell (p := ⟨b1, o1 + (i - 1), none⟩) hltb).trans (hcl (i - 1) (by omega))
            have hxb := ok_getD hokA (i - 1)
            have HBT := hid (bit_at (i := i - 1) (k := k - 1) hokA (by omega) (by omega))
            obtain ⟨x, hxe⟩ : ∃ x, x = A.getD (i - 1) 0 := ⟨_, rfl⟩
            rw [← hxe] at hx hxb HBT
            have hxl : b1 < wr.heap.size := Nat.lt_of_lt_of_le hltb hWr.size
            clear hxe
            have HRL : Hid (R.length ≤ B.length) := hid (by
              have h1 := Nat.mod_lt (val A / 2 ^ (32 * (i - 1) + k)) HB0.out
              rw [← HVR.out] at h1
              by_cases h : R.length ≤ B.length
              · exact h
              · have := val_len_lt hokB HCR.out (by omega)
                omega)
            have HBI : Hid ((bits BinOp.and IntKind.u32 ((x : Int) / 2 ^ (k - 1)) 1 == 1) = decide (val A / 2 ^ (32 * (i - 1) + (k - 1)) % 2 = 1)) := hid (by
              have h0 : x / 2 ^ (k - 1) < 4294967296 := Nat.lt_of_le_of_lt (Nat.div_le_self _ _) hxb
              rw [show (x : Int) / 2 ^ (k - 1) = ((x / 2 ^ (k - 1) : Nat) : Int) by rw [Int.natCast_ediv, Int.natCast_pow]; rfl]
              have h1 := u32_and_nat (x / 2 ^ (k - 1)) 1 h0 (by omega)
              rw [show (((1 : Nat)) : Int) = 1 from rfl] at h1
              rw [h1, Nat.and_one_is_mod, HBT.out]
              generalize x / 2 ^ (k - 1) % 2 = z
              by_cases h : z = 1
              · subst h; rfl
              · rw [decide_eq_false h]
                have : ¬ ((z : Int) = 1) := by omega
                simpa using this)
            go_wp2_with fail
            rw [HBI.out]
            generalize hbit : decide (val A / 2 ^ (32 * (i - 1) + (k - 1)) % 2 = 1) = bit at *
            refine (rtwice_any _ ro rc rk R bit HRK.out hsR (by have := HRL.out; omega)).mono ?_
            rintro e w3 ⟨ro3, rc3, rk3, R3, rfl, HRK3, hsR3, hfR3, hcR3, hl3, hv3, hb3⟩
            have hW3 := below_call hWr hb3 hWr.size
            have hrw3 := hrw.below hb3
            have HV3 := hid hv3
            have HF3 := hid hfR3
            have HC3 := hid hcR3
            have hl3' : R3.length ≤ 400001 := by have := HRL.out; omega
            have hgl := hrw.lt
            clear hb3 hsR hv3 hfR3 hcR3 hx hl3
            go_wp2_with fail
            refine (rcmp_k _ ro3 rc3 rk3 R3 bo cb B.length B HRK3.out rfl hsR3 (HBS.out.below hW3) HC3.out HCB.out).mono ?_
            rintro e w4 ⟨rfl, hb4⟩
            have hW4 := below_call hW3 hb4 hW3.size
            have hrw4 := hrw3.below hb4
            have hsR4 := hsR3.below hb4
            clear hb4 hsR3 hrw3
            by_cases hge : val B ≤ val R3
            · have hcm4 : (0 : Int) ≤ cmpI (val R3 : Int) (val B : Int) := by
                unfold cmpI
                rw [if_neg (by omega)]
                split <;> omega
              have HGE3 := hid hge
              have HLB := hid (len_val_le hsR4.1 HCB.out hge)
              have HR0 : Hid (0 < R3.length) := hid (by
                have h2 := HB0.out
                rcases Nat.eq_zero_or_pos R3.length with h | h
                · rw [List.eq_nil_of_length_eq_zero h] at hge
                  simp [val] at hge
                  omega
                · exact h)
              clear hge
              go_wp2_with fail
              refine (rsub_k _ ro3 rc3 rk3 R3 bo cb B.length B HRK3.out rfl hsR4 (HBS.out.below hW4) (by omega) HLB.out HGE3.out HR0.out).mono ?_
              rintro e w5 ⟨ro5, rc5, rk5, R5, rfl, HRK5, hsR5, hfR5, hcR5, hl5, hv5, hb5⟩
              have hW5 := below_call hW4 hb5 hW4.size
              have hrw5 := hrw4.below hb5
              have hq5 : w5.cell? ⟨w1.heap.size, i - 1, none⟩ = some (.int .u32 ((C.getD (i - 1) 0 : Nat) : Int)) := hrw5.cell (i - 1) (by rw [HL.out]; omega)
              have hqf := hrw5.frozen (i - 1)
              have hqb := ok_getD hokC (i - 1)
              obtain ⟨y, hye⟩ : ∃ y, y = C.getD (i - 1) 0 := ⟨_, rfl⟩
              rw [← hye] at hq5 hqb
              have hql := hrw5.lt
              have HYE := hid hye
              have HV5 := hid hv5
              have HF5 := hid hfR5
              have HC5 := hid hcR5
              have hg4 : w1.heap.size < w4.heap.size := hrw4.lt
              have hsR6 := hsR5
              clear hye hb5 hsR4 hrw4 hv5 hfR5 hcR5
              obtain ⟨m, hm⟩ := HM.out
              have hpk : 2 ^ (k - 1) < 4294967296 := by
                have := Nat.pow_lt_pow_right (show 1 < 2 by omega) (show k - 1 < 32 by omega)
                simpa using this
              have hyv : y = 2 ^ (k - 1 + 1) * m := by rw [HYE.out, hm, show k - 1 + 1 = k by omega]
              have HOR : Hid (bits BinOp.or IntKind.u32 (y : Int) (2 ^ (k - 1) % 4294967296) = ((y + 2 ^ (k - 1) : Nat) : Int)) := hid (by
                have e : (2 : Int) ^ (k - 1) % 4294967296 = ((2 ^ (k - 1) : Nat) : Int) := by
                  have h : (2 : Int) ^ (k - 1) = ((2 ^ (k - 1) : Nat) : Int) := by simp
                  rw [h]
                  clear h
                  generalize (2 ^ (k - 1) : Nat) = z at hpk ⊢
                  omega
                rw [e, u32_or_nat _ _ hqb hpk, hyv, or_bit])
              have hlt2 : y + 2 ^ (k - 1) < 4294967296 := by
                rw [hyv, ← or_bit, ← hyv]
                exact Nat.or_lt_two_pow (n := 32) (by omega) (by omega)
              have HT := hid (dm_yes (t := val A / 2 ^ (32 * (i - 1) + (k - 1))) HB0.out (by
                have h1 := HGE3.out
                rw [HV3.out, HVR.out, bit_nat hbit, show 32 * (i - 1) + k = 32 * (i - 1) + (k - 1) + 1 by omega, half_pow] at h1
                exact h1))
              have HREL : Hid (InRel w w1.heap.size A B (i - 1) (.slice ro5 rk5 rc5) (.int .i64 (((k - 1 : Nat) : Int) - 1)) (w5.setCell ⟨w1.heap.size, i - 1, none⟩ (.int .u32 ((y + 2 ^ (k - 1) : Nat) : Int)))) := hid (by
                refine ⟨k - 1, C.set (i - 1) (y + 2 ^ (k - 1)), by omega, rfl, ⟨ro5, rc5, rk5, R5, rfl, HRK5, slAt_grow hsR6 (grow_set (grow_refl _ _) _ _) (fun ad e => ?_), fun ad e => ?_, HC5.out, ?_, hrw5.set _ _, by rw [Hid, List.length_set]; exact HL.out, ok_set hokC _ _ hlt2, ?_, hW5.setCell (by show w.heap.size ≤ w1.heap.size; exact hb1.size) _⟩, fun j hj => ?_, 2 * m + 1, ?_⟩
                · have := HF5.out ad e
                  omega
                · have := HF5.out ad e
                  omega
                · show val R5 = _
                  rw [HV5.out, HT.out.1, HV3.out, HVR.out, bit_nat hbit, show 32 * (i - 1) + k = 32 * (i - 1) + (k - 1) + 1 by omega, half_pow]
                · show val (C.set (i - 1) (y + 2 ^ (k - 1))) = _
                  rw [HYE.out]
                  exact dm_set (by rw [HL.out]; omega) (by rw [show 32 * (i - 1) + (k - 1) + 1 = 32 * (i - 1) + k by omega]; exact HVC.out) HT.out.2
                · rw [List.getD_eq_getElem?_getD, List.getElem?_set_ne (by omega), ← List.getD_eq_getElem?_getD]
                  exact HZ.out j hj
                · rw [List.getD_eq_getElem?_getD, List.getElem?_set_self (by rw [HL.out]; omega)]
                  show y + 2 ^ (k - 1) = _
                  rw [hyv, Nat.pow_succ, Nat.mul_add, Nat.mul_one, Nat.mul_assoc])
              rw [show ((k - 1 : Nat) : Int) = (k : Int) - 1 by omega] at HREL
              clear hyv hm hsR6 hpk hlt2
              go_wp2
              go_roundw
              case rel =>
                rw [HOR.out]
                exact HREL.out
              case measure => simp [intOf]; omega
            · have hcm4 : ¬ (0 : Int) ≤ cmpI (val R3 : Int) (val B : Int) := by
                rw [cmpI_lt (by omega)]
                omega
              have HT := hid (dm_no (t := val A / 2 ^ (32 * (i - 1) + (k - 1))) HB0.out (by
                have h1 := hge
                rw [HV3.out, HVR.out, bit_nat hbit, show 32 * (i - 1) + k = 32 * (i - 1) + (k - 1) + 1 by omega, half_pow] at h1
                exact h1))
              have hg4 : w1.heap.size < w4.heap.size := hrw4.lt
              have HREL : Hid (InRel w w1.heap.size A B (i - 1) (.slice ro3 rk3 rc3) (.int .i64 (((k - 1 : Nat) : Int) - 1)) w4) := hid (by
                refine ⟨k - 1, C, by omega, rfl, ⟨ro3, rc3, rk3, R3, rfl, HRK3, hsR4, fun ad e => ?_, HC3.out, ?_, hrw4, HL, hokC, ?_, hW4⟩, HZ.out, ?_⟩
                · have := HF3.out ad e
                  omega
                · show val R3 = _
                  rw [HT.out.1, HV3.out, HVR.out, bit_nat hbit, show 32 * (i - 1) + k = 32 * (i - 1) + (k - 1) + 1 by omega, half_pow]
                · show val C = _
                  exact dm_keep (by rw [show 32 * (i - 1) + (k - 1) + 1 = 32 * (i - 1) + k by omega]; exact HVC.out) HT.out.2
                · obtain ⟨m, hm⟩ := HM.out
                  exact ⟨2 * m, by rw [hm]; conv => lhs; rw [show k = k - 1 + 1 by omega, Nat.pow_succ, Nat.mul_assoc]⟩)
              rw [show ((k - 1 : Nat) : Int) = (k : Int) - 1 by omega] at HREL
              clear hge hrw4 hsR4
              go_wp2
              go_roundw
              case rel => exact HREL.out
              case measure => simp [intOf]; omega

end Go.Proofs.Ytiicjfacekldnaa
