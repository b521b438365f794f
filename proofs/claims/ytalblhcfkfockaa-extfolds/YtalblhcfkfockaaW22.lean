/-
  Walks: a limb times a divisor taken off.
-/
import Derived.Test.YtalblhcfkfockaaW21
namespace Go.Proofs.Ytalblhcfkfockaa
open Go.RowKit Lm
set_option linter.unusedSimpArgs false
set_option linter.unusedVariables false
set_option maxRecDepth 100000

theorem sub_lim1 (z t : Nat) (hz : z < 4294967296) (ht : t ≤ 18446744069414584320) (h : (z : Int) < (t : Int) % 4294967296) :
    ((z : Int) - (t : Int)) % 4294967296 = ((z + 4294967296 - t % 4294967296 : Nat) : Int) ∧ t / 4294967296 + 1 < 4294967296 ∧ z + 4294967296 - t % 4294967296 < 4294967296 ∧ z + 4294967296 * (t / 4294967296 + 1) = z + 4294967296 - t % 4294967296 + t := by omega
theorem sub_lim0 (z t : Nat) (hz : z < 4294967296) (ht : t ≤ 18446744069414584320) (h : (t : Int) % 4294967296 ≤ (z : Int)) :
    ((z : Int) - (t : Int) % 4294967296) = ((z - t % 4294967296 : Nat) : Int) ∧ t / 4294967296 < 4294967296 ∧ z - t % 4294967296 < 4294967296 ∧ z + 4294967296 * (t / 4294967296) = z - t % 4294967296 + t := by omega

theorem end_sub {A C : List Nat} {n c z' ov X : Nat} (hA : A.length = n + 1) (hC : C.length = n + 1) (hv : val (A.take n) + pw n * c = val (C.take n) + X) (hs : A.getD n 0 + 4294967296 * ov = z' + c) : val A + pw A.length * ov = val (C.set n z') + X := by
  have h1 := val_take_succ A n (by omega)
  rw [List.take_of_length_le (by omega)] at h1
  have h2 := take_set_succ (C := C) (k := n) (s := z') (by omega)
  rw [List.take_of_length_le (by rw [List.length_set]; omega)] at h2
  rw [h1, h2, hA, pw_succ_mul]
  have h3 := congrArg (pw n * ·) hs
  simp only [Nat.mul_add] at h3
  omega

/-- What subTimes tells. -/
def SubPost (w : World) (g : Nat) (P A T V : List Nat) (x : Nat) (e : Ending) (w' : World) : Prop :=
  ∃ (A' : List Nat) (ov : Nat) (b : Bool), e = .returned (.bool b) ∧ Hid (b = decide (ov = 1)) ∧ ov ≤ 1 ∧ RowAt w' g (P ++ (A' ++ T)) ∧ A'.length = A.length ∧ ok A' ∧ val A + pw A.length * ov = val A' + x * val V ∧ w.grownBy w' (some g)

set_option maxHeartbeats 3200000 in
theorem subTimes_any (w : World) (g o cap ka : Nat) (P A T : List Nat) (bo : Option Addr) (cb kb : Nat) (V : List Nat) (x : Nat) (ho : o = P.length) (hka : ka = A.length) (hkb : kb = V.length) (hrow : RowAt w g (P ++ (A ++ T))) (hok : ok A) (hl : A.length ≤ 2000000) (hc : A.length ≤ cap) (hcm : cap ≤ 9223372036854775807)
    (hB : SlAt w bo cb V) (hne : 0 < V.length → ∀ ad, bo = some ad → ad.block ≠ g) (hVA : A.length = V.length + 1) (hx : x < 4294967296) :
    Calls Try.prog 115 #[.slice (some ⟨g, o, none⟩) ka cap, .slice bo kb cb, .int .u32 (x : Int)] w (SubPost w g P A T V x) := by
  subst hka hkb
  have HO := hid ho
  have HNE := hid hne
  have HVA := hid hVA
  have hcB := hB.2.2.1
  have hlB := hB.2.1
  unfold maxLen at hcB
  have hle : V.length < A.length := by omega
  clear ho hne hVA
  go_enter Try.func115, Try.ntmps115
  go_wp2
  go_loopw [7, 16] (fun s i wr => ∃ (k c : Nat) (C : List Nat), k ≤ V.length ∧ i = .int .i64 (k : Int) ∧ s = .int .u64 (c : Int) ∧ c < 4294967296 ∧ Hid (C.length = A.length) ∧ ok C ∧ Hid (C.drop k = A.drop k) ∧ Hid (val (A.take k) + pw k * c = val (C.take k) + x * val (V.take k)) ∧ RowAt wr g (P ++ (C ++ T)) ∧ w.grownBy wr (some g)) (fun s i wr => V.length - (intOf i).toNat)
  case atStart => exact ⟨0, 0, A, Nat.zero_le _, rfl, rfl, by omega, rfl, hok, rfl, by simp [val, Hid], hrow, grow_refl _ _⟩
  case round =>
    obtain ⟨k, c, C, hk, rfl, rfl, hc1, HL, hokC, HD, HV, hrw, hgw⟩ := hrel
    by_cases hlt : k < V.length
    · rcases hB.2.2.2 with ⟨_, _⟩ | ⟨b, off, rfl, hltb, hcb⟩
      · omega
      have hy : wr.cell? ⟨b, off + k, none⟩ = some (.int .u32 ((V.getD k 0 : Nat) : Int)) := (World.cell?_of_block (w := w) (a := ⟨b, off + k, none⟩) (hgw.block b hltb (by simpa using HNE.out (by omega) _ rfl))).trans (hcb k hlt)
      have hz : wr.cell? ⟨g, o + k, none⟩ = some (.int .u32 ((A.getD k 0 : Nat) : Int)) := by
        rw [hrw.cellO HO.out (by rw [HL.out]; omega), drop_getD HD.out]
      have hfz := hrw.frozen (o + k)
      have hzb := ok_getD hok k
      have hyb := ok_getD hB.1 k
      obtain ⟨z, hze⟩ : ∃ z, z = A.getD k 0 := ⟨_, rfl⟩
      obtain ⟨y, hye⟩ : ∃ y, y = V.getD k 0 := ⟨_, rfl⟩
      rw [← hze] at hz hzb
      rw [← hye] at hy hyb
      have HZ := hid hze
      have HY := hid hye
      have hm := mul_bound hx hyb
      obtain ⟨m, hme⟩ : ∃ m, m = x * y := ⟨_, rfl⟩
      rw [← hme] at hm
      have HM := hid hme
      have hmi : (x : Int) * (y : Int) = (m : Int) := by rw [hme]; simp
      clear hze hye hcb hme
      obtain ⟨t, hte⟩ : ∃ t, t = m + c := ⟨_, rfl⟩
      have hti : (m : Int) + (c : Int) = (t : Int) := by omega
      have htb : t ≤ 18446744069414584320 := by omega
      have HT : Hid (t = x * y + c) := hid (by rw [← HM.out, hte])
      clear hte
      go_wp2
      · have h1 : (z : Int) < (t : Int) % 4294967296 := by first | assumption | (rw [← hti]; assumption)
        have HB := hid (sub_lim1 z t hzb htb h1)
        clear hm
        go_roundw
        case rel =>
          first | rw [hti] | skip
          rw [HB.out.1]
          refine ⟨k + 1, t / 4294967296 + 1, C.set k (z + 4294967296 - t % 4294967296), hlt, by go_num, by go_num, HB.out.2.1, by rw [Hid, List.length_set]; exact HL.out, ok_set hokC _ _ HB.out.2.2.1, set_drop_succ HD.out, ?_, hrw.setO HO.out (by rw [HL.out]; omega), grow_set hgw _ _⟩
          exact times_sub (t := 0) (by rw [HL.out]; omega) (by omega) hlt HV.out (by rw [← HZ.out, ← HY.out]; have e1 := HB.out.2.2.2; have e2 := HT.out; omega)
        case measure => simp [intOf]; omega
      · have h1 : (t : Int) % 4294967296 ≤ (z : Int) := by first | assumption | (rw [← hti]; assumption)
        have HB := hid (sub_lim0 z t hzb htb h1)
        clear hm
        go_roundw
        case rel =>
          first | rw [hti] | skip
          rw [HB.out.1]
          refine ⟨k + 1, t / 4294967296, C.set k (z - t % 4294967296), hlt, by go_num, by go_num, HB.out.2.1, by rw [Hid, List.length_set]; exact HL.out, ok_set hokC _ _ HB.out.2.2.1, set_drop_succ HD.out, ?_, hrw.setO HO.out (by rw [HL.out]; omega), grow_set hgw _ _⟩
          exact times_sub (t := 0) (by rw [HL.out]; omega) (by omega) hlt HV.out (by rw [← HZ.out, ← HY.out]; have e1 := HB.out.2.2.2; have e2 := HT.out; omega)
        case measure => simp [intOf]; omega
    · have hkB : k = V.length := by omega
      subst hkB
      have hz : wr.cell? ⟨g, o + V.length, none⟩ = some (.int .u32 ((A.getD V.length 0 : Nat) : Int)) := by
        rw [hrw.cellO HO.out (by rw [HL.out]; omega), drop_getD HD.out]
      have hfz := hrw.frozen (o + V.length)
      have hzb := ok_getD hok V.length
      obtain ⟨z, hze⟩ : ∃ z, z = A.getD V.length 0 := ⟨_, rfl⟩
      rw [← hze] at hz hzb
      have HZ := hid hze
      clear hze
      by_cases hzc : z < c
      · have HS := hid (show A.getD V.length 0 + 4294967296 * 1 = (z + 4294967296 - c) + c by rw [← HZ.out]; simp; omega)
        have e1 : ((z : Int) - (c : Int)) % 4294967296 = ((z + 4294967296 - c : Nat) : Int) := by omega
        have HE := hid e1
        have hb : z + 4294967296 - c < 4294967296 := by omega
        clear e1
        go_wp2
        refine bodyPost_ret (v := .bool true) (by simp [results, Try.results115, go_sem, hzc]) rfl ?_
        rw [HE.out]
        exact ⟨C.set V.length (z + 4294967296 - c), 1, true, rfl, rfl, by omega, hrw.setO HO.out (by rw [HL.out]; omega), by rw [List.length_set]; exact HL.out, ok_set hokC _ _ hb, end_sub HVA.out (by rw [HL.out, HVA.out]) (by have := HV.out; rwa [List.take_length] at this) HS.out, grow_set hgw _ _⟩
      · have HS := hid (show A.getD V.length 0 + 4294967296 * 0 = (z - c) + c by rw [← HZ.out]; simp; omega)
        have HE : Hid ((z : Int) - (c : Int) = ((z - c : Nat) : Int)) := hid (by omega)
        have hb : z - c < 4294967296 := by omega
        go_wp2
        refine bodyPost_ret (v := .bool false) (by simp [results, Try.results115, go_sem, hzc]) rfl ?_
        rw [HE.out]
        exact ⟨C.set V.length (z - c), 0, false, rfl, rfl, by omega, hrw.setO HO.out (by rw [HL.out]; omega), by rw [List.length_set]; exact HL.out, ok_set hokC _ _ hb, end_sub HVA.out (by rw [HL.out, HVA.out]) (by have := HV.out; rwa [List.take_length] at this) HS.out, grow_set hgw _ _⟩

end Go.Proofs.Ytalblhcfkfockaa
