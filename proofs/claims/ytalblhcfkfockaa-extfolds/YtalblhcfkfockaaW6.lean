/-
  Walks: the digits of a number.
-/
import Derived.Test.YtalblhcfkfockaaW5
import Derived.Test.YtalblhcfkfockaaDec
namespace Go.Proofs.Ytalblhcfkfockaa
open Go.RowKit Lm
set_option linter.unusedSimpArgs false
set_option linter.unusedVariables false
set_option maxRecDepth 100000

/-- Bytes as cells. -/
def Bs (l : List Nat) : List Value := l.map (fun (x : Nat) => Value.int .u8 (x : Int))
theorem bs_length (l : List Nat) : (Bs l).length = l.length := by simp [Bs]
theorem bs_append (a b : List Nat) : Bs (a ++ b) = Bs a ++ Bs b := by simp [Bs]
theorem bs_one (l : List Nat) : ∀ v ∈ Bs l, v.oneCell' = true := by
  intro v hv
  obtain ⟨_, _, rfl⟩ := List.mem_map.1 hv
  rfl

/-- A slice that reads as these bytes. -/
def SlB (w : World) (ao : Option Addr) (cap : Nat) (l : List Nat) : Prop :=
  l.length ≤ cap ∧ cap ≤ maxLen ∧ ((ao = none ∧ cap = 0) ∨ ∃ b off, ao = some ⟨b, off, none⟩ ∧ b < w.heap.size ∧ ∀ i, i < l.length → w.cell? ⟨b, off + i, none⟩ = some (.int .u8 ((l.getD i 0 : Nat) : Int)))

theorem Try.info8 : (Try.prog.info? 5).map (fun i => (i.zero, i.size, i.bytes)) = some (some (.int .u8 0), 1, 1) := by kernel_rfl

theorem own_slB {w : World} {base : Nat} {ao : Option Addr} {cap : Nat} {l : List Nat} (h : w.ownsRow base 5 1 (.slice ao l.length cap) l.length (Bs l)) : SlB w ao cap l := by
  rcases h.2 with ⟨h', h0⟩ | ⟨g, cap', cur, h', hbg, hg, hnc, hcm, hcs, htake⟩
  · simp only [Value.slice.injEq] at h'
    obtain ⟨rfl, _, rfl⟩ := h'
    exact ⟨by omega, by unfold maxLen; omega, .inl ⟨rfl, rfl⟩⟩
  · have hh := h
    simp only [Value.slice.injEq, true_and] at h'
    obtain ⟨rfl, rfl⟩ := h'
    refine ⟨hnc, hcm, .inr ⟨g, 0, rfl, (Array.getElem?_eq_some_iff.1 hg).1, fun i hi => ?_⟩⟩
    rw [Nat.zero_add, hh.cellAt i (by omega)]
    simp [Bs, List.getD_eq_getElem?_getD, hi]
theorem ownB_shape {w : World} {base : Nat} {v : Value} {n : Nat} {xs : List Value} (h : w.ownsRow base 5 1 v n xs) : ∃ ao cap, v = .slice ao n cap ∧ From base ao := by
  rcases h.2 with ⟨rfl, rfl⟩ | ⟨g, cap, cur, rfl, hb, _⟩
  · exact ⟨none, 0, rfl, fun ad e => by simp at e⟩
  · exact ⟨_, cap, rfl, from_row _ _ _ hb⟩

theorem own_take {w : World} {base : Nat} {ao : Option Addr} {cap n : Nat} {D : List Nat} (h : w.ownsRow base 5 1 (.slice ao D.length cap) D.length (Bs D)) (hn : n ≤ D.length) :
    w.ownsRow base 5 1 (.slice ao n cap) n (Bs (D.take n)) := by
  refine ⟨by rw [bs_length, take_len hn, Nat.mul_one], ?_⟩
  rcases h.2 with ⟨h', h0⟩ | ⟨g, cap', cur, h', hbg, hg, hnc, hcm, hcs, htake⟩
  · simp only [Value.slice.injEq] at h'
    obtain ⟨rfl, _, rfl⟩ := h'
    have : n = 0 := by omega
    subst this
    exact .inl ⟨rfl, rfl⟩
  · simp only [Value.slice.injEq, true_and] at h'
    obtain ⟨rfl, rfl⟩ := h'
    refine .inr ⟨g, cap, cur, rfl, hbg, hg, by omega, hcm, hcs, ?_⟩
    have : cur.toList.take (n * 1) = (cur.toList.take (D.length * 1)).take (n * 1) := by
      rw [List.take_take, Nat.min_eq_left (by omega)]
    rw [this, htake]
    simp [Bs, List.map_take]
theorem RowAt.pre {w : World} {g cap : Nat} {A T : List Nat} (h : RowAt w g (A ++ T)) (hok : ok A) (hc : A.length ≤ cap) (hm : cap ≤ 1000000000) : SlAt w (some ⟨g, 0, none⟩) cap A := by
  refine ⟨hok, hc, by unfold maxLen; omega, .inr ⟨g, 0, rfl, h.lt, fun i hi => ?_⟩⟩
  rw [Nat.zero_add, h.cell i (by rw [List.length_append]; omega), getD_append hi]

set_option maxHeartbeats 400000 in
theorem noughts_any (w : World) (ao : Option Addr) (cap : Nat) (l : List Nat) (h : SlB w ao cap l) :
    Calls Try.prog 94 #[.slice ao l.length cap] w fun e w' => ∃ n, e = .returned (.slice ao n cap) ∧ w' = w ∧ n ≤ l.length ∧ (l.take n).getLast? ≠ some 48 ∧ decv (l.take n) = decv l := by
  obtain ⟨hlc, hcm, hs⟩ := h
  unfold maxLen at hcm
  rcases hs with ⟨rfl, rfl⟩ | ⟨b, off, rfl, hlt, hc⟩
  · have hl0 : l.length = 0 := by omega
    go_enter Try.func94, Try.ntmps94
    go_wp2
    go_loop [3] (fun i => i = .int .i64 0) (fun i => (intOf i).toNat)
    case atStart => rfl
    case round =>
      subst hrel
      go_wp2
      go_ret
      exact ⟨0, rfl, rfl, by simp, by simp, by rw [List.eq_nil_of_length_eq_zero hl0]; rfl⟩
  · go_enter Try.func94, Try.ntmps94
    go_wp2
    go_loop [3] (fun i => ∃ n : Nat, n ≤ l.length ∧ i = .int .i64 n ∧ ∀ j, n ≤ j → j < l.length → l.getD j 0 = 48) (fun i => (intOf i).toNat)
    case atStart => exact ⟨l.length, Nat.le_refl _, rfl, fun j hj hl => by omega⟩
    case round =>
      obtain ⟨n, hn, rfl, hz⟩ := hrel
      by_cases h0 : n = 0
      · subst h0
        have HZ := hid hz
        clear hz
        go_wp2
        go_ret
        exact ⟨0, rfl, rfl, by simp, by simp, decv_take l 0 HZ.out⟩
      · have hcc := hc (n - 1) (by omega)
        have HZ := hid hz
        clear hz
        go_wp2
        · go_round
          case rel =>
            refine ⟨n - 1, by omega, by go_num, fun j hj hl => ?_⟩
            by_cases hj1 : j = n - 1
            · subst hj1
              have h1 : (((l[n - 1]?.getD 0 : Nat) : Int) == 48) = true := by assumption
              rw [List.getD_eq_getElem?_getD]
              simp at h1
              omega
            · exact HZ.out j (by omega) hl
          case measure => simp [intOf]; omega
        · have h1 : (((l[n - 1]?.getD 0 : Nat) : Int) == 48) = false := by assumption
          have h2 : l.getD (n - 1) 0 ≠ 48 := by
            rw [List.getD_eq_getElem?_getD]
            simp at h1
            omega
          go_ret
          exact ⟨n, rfl, rfl, hn, last_take hn (.inr h2), decv_take l n HZ.out⟩

/-- What stands at the head of an outer round of digitsOf. -/
def DigRel (w : World) (L N m : Nat) (rv dv : Value) (wr : World) : Prop :=
  ∃ (k : Nat) (A T D : List Nat), m = val A ∧ rv = .slice (some ⟨w.heap.size, 0, none⟩) A.length L ∧ A.length ≤ L ∧ RowAt wr w.heap.size (A ++ T) ∧ ok A ∧ canon A ∧
    wr.ownsRow (w.heap.size + 1) 5 1 dv D.length (Bs D) ∧ dig D ∧ D.length = 9 * k ∧ D.length ≤ 288 * L + 9 ∧ val A * 2 ^ k ≤ N ∧ decv D + p10 D.length * val A = N ∧ Below w.heap.size w wr

/-- What stands at the head of an inner round. -/
def DigIn (w : World) (L N k : Nat) (A T : List Nat) (dv lv iv : Value) (wr : World) : Prop :=
  ∃ (j low : Nat) (D : List Nat), j ≤ 9 ∧ iv = .int .i64 j ∧ lv = .int .u32 (low : Int) ∧ low < p10 (9 - j) ∧ RowAt wr w.heap.size (A ++ T) ∧
    wr.ownsRow (w.heap.size + 1) 5 1 dv D.length (Bs D) ∧ dig D ∧ D.length = 9 * k + j ∧ decv D + p10 D.length * (low + p10 (9 - j) * val A) = N ∧ Below w.heap.size w wr

set_option maxHeartbeats 1600000 in
theorem digitsOf_any (w : World) (ao : Option Addr) (cap : Nat) (l : List Nat) (h : SlAt w ao cap l) (hl : l.length ≤ 1000000) (hcl : canon l) :
    Calls Try.prog 78 #[.slice ao l.length cap] w fun e w' => ∃ (D : List Nat) (ao' : Option Addr) (cap' : Nat), e = .returned (.slice ao' D.length cap') ∧ w'.ownsRow (w.heap.size + 1) 5 1 (.slice ao' D.length cap') D.length (Bs D) ∧ D = decs (val l) ∧ D.length ≤ 300000000 ∧ Below w.heap.size w w' := by
  obtain ⟨i0, hi, hz0, hz1, hz2⟩ := info_parts Try.info8
  go_enter Try.func78, Try.ntmps78
  go_wp2_with fail
  refine (copied_any _ ao cap l h hl).mono ?_
  rintro e w1 ⟨rfl, hrow, hb1⟩
  have hok := h.1
  have hN := val_lt hok
  clear h
  go_wp2_with fail
  go_loopg [3, 4] (val l) (fun m rv dv wr => DigRel w l.length (val l) m rv dv wr)
  case atStart => exact ⟨0, l, [], [], rfl, rfl, Nat.le_refl _, by rw [List.append_nil]; exact hrow, hok, hcl, World.ownsRow_nil _ _ _ _, by intro c hc; simp at hc, rfl, by simp, by simp, by simp [decv, p10], hb1⟩
  case round =>
    obtain ⟨k, A, T, D, hgk, rfl, hAL, hr, hokA, hcA, hown, hD, hDl, hDb, hvk, hsum, hb⟩ := hrel
    have HGK := hid hgk
    have HDL := hid hDl
    have HS := hid hsum
    have HVK := hid hvk
    have HD := hid hD
    clear hgk hDl hsum hvk hD hrow hb1
    by_cases hA0 : A.length = 0
    · obtain ⟨ao2, cap2, rfl, hfr⟩ := ownB_shape hown
      have hv0 : val A = 0 := by rw [List.eq_nil_of_length_eq_zero hA0]; rfl
      have HS2 : Hid (decv D = val l) := hid (by have := HS.out; rw [hv0] at this; simpa using this)
      clear HS HGK HVK hv0
      rw [hA0]
      go_wp2_with fail
      refine (noughts_any _ ao2 cap2 D (own_slB hown)).mono ?_
      rintro e w3 ⟨n, rfl, rfl, hn, hlast, hdv⟩
      have hown2 := own_take hown hn
      have HX := hid (decs_eq (dig_take HD.out n) hlast (hdv.trans HS2.out))
      clear hown
      go_wp2
      go_ret
      refine ⟨D.take n, ao2, cap2, ?_, ?_, HX.out, ?_, hb⟩
      · rw [take_len hn]; rfl
      · rw [take_len hn]; exact hown2
      · rw [take_len hn]; omega
    · have hvA : 0 < val A := by
        have h1 := canon_pos hcA (by intro e; subst e; simp at hA0)
        have h2 := pw_pos (A.length - 1)
        omega
      have hkL : k ≤ 32 * l.length := rounds_le hvA HVK.out hN
      obtain ⟨d9, hd9⟩ : ∃ d : Nat, d = p10 9 := ⟨_, rfl⟩
      have hd1 : 0 < d9 := by rw [hd9]; exact p10_pos 9
      have hd2 : d9 < 4294967296 := by rw [hd9]; simp [p10]
      have HD3 : Hid ((1000000000 : Int) = (d9 : Int)) := hid (by rw [hd9]; simp [p10])
      have HD9 := hid hd9
      clear hd9
      go_wp2_with fail
      have hq : A.length ≤ 1000000 := by omega
      refine (divInto_any _ _ _ A T d9 hr hokA hq hAL hd1 hd2 1000000000 HD3.out).mono ?_
      rintro e w2 ⟨A1, r, rfl, hr1, hl1, hok1, hv1, hrlt, hgr⟩
      have HL1 := hid hl1
      have hown1 : w2.ownsRow (w.heap.size + 1) 5 1 _ D.length (Bs D) := hown.kept hgr (by right; intro e; have := (hown.lt _ e).1; omega)
      have hb2 : Below w.heap.size w w2 := hb.grown hgr hb.size (by simp)
      have hl1' : A1.length ≤ l.length := by omega
      have HV1 := hid hv1
      clear hv1 hown hr hb hgr hl1
      go_wp2_with fail
      rw [← HL1.out]
      have hq2 : l.length ≤ 1000000000 := by omega
      refine (trimmed_any _ (some ⟨w.heap.size, 0, none⟩) l.length A1 (RowAt.pre hr1 hok1 hl1' hq2)).mono ?_
      rintro e w3 ⟨n, rfl, rfl, hn, hcn, hvn⟩
      have hr3 : RowAt w3 w.heap.size (A1.take n ++ (A1.drop n ++ T)) := by rw [← List.append_assoc, List.take_append_drop]; exact hr1
      have HVN := hid hvn
      clear hvn hr1
      go_wp2_with fail
      go_loopw [4, 5, 15] (fun dv lv iv wr => DigIn w l.length (val l) k (A1.take n) (A1.drop n ++ T) dv lv iv wr) (fun _ _ iv _ => 9 - (intOf iv).toNat)
      case atStart => 
        refine ⟨0, r, D, by omega, rfl, rfl, by rw [← HD9.out]; exact hrlt, hr3, hown1, HD.out, by rw [HDL.out]; rfl, ?_, hb2⟩
        rw [← HS.out, HV1.out, HVN.out, Nat.sub_zero, ← HD9.out, Nat.mul_comm (val A1) d9, Nat.add_comm r]
      case round =>
        obtain ⟨j, low, D1, hj, rfl, rfl, hlow, hr4, hown4, hD1, hDl1, hs1, hb4⟩ := hrel
        by_cases hj9 : j < 9
        · have HS1 := hid hs1
          have HD1 := hid hD1
          have HDL1 := hid hDl1
          have HLOW := hid hlow
          have hlb : low < 4294967296 := by have := p10_mono (show 9 - j ≤ 9 by omega); simp only [p10] at this; omega
          have hd1b : D1.length ≤ 300000000 := by omega
          clear hs1 hD1 hDl1 hlow
          go_wp2_with (at_builtin; go_must (refine wpList_append_own _ rfl _ _ 48 rfl (w.heap.size + 1) 5 i0 (.int .u8 0) 1 1 Try.underlying48 hi hz0 hz1 hz2 rfl (by decide) _ _ _ rfl (hown4.alloc _) ⟨wr.heap.size, 0, none⟩ 1 1 [.int .u8 (48 + (low : Int) % 10)] rfl rfl ?_ ?_ ?_ ?_ ?_ ?_))
          · intro q u hq
            match q, hq with
            | 0, hq => simp at hq; subst hq; simp [Addr.add]
          · intro u hu; simp at hu; subst hu; rfl
          · unfold maxLen; omega
          · omega
          · have := hb4.size; simp; omega
          · intro v' w5 hown5 hgrow _
            have hr5 : RowAt w5 w.heap.size (A1.take n ++ (A1.drop n ++ T)) := (hr4.below (show Below wr.heap.size wr _ from (by repeat (first | exact Below.refl _ _ | refine Below.alloc ?_ ?_ _ | refine Below.setCell ?_ ?_ _ | refine Below.drew ?_ | refine below_drewN ?_ _ | (· simp) | omega | (· simp; omega) | exact Below.size (by assumption) | assumption | refine below_call ?_ (by assumption) ?_)))).kept hgrow (by intro e; have := (hown4.lt _ e.symm).1; omega)
            have hb5 : Below w.heap.size w w5 := (hb4.alloc hb4.size _).grown hgrow (by simp; have := hb4.size; omega) (fun q e => by have := (hown4.lt _ e).1; omega)
            have e1 : Bs D1 ++ [.int .u8 (48 + (low : Int) % 10)] = Bs (D1 ++ [48 + low % 10]) := by simp [Bs]
            rw [e1] at hown5
            have HO := hid hown5
            clear hown5 hgrow hown4 hr4
            go_wp2
            go_roundw
            case rel =>
              refine ⟨j + 1, low / 10, D1 ++ [48 + low % 10], by omega, by go_num, by go_num, p10_low hj9 HLOW.out, hr5, by rw [List.length_append]; exact HO.out, ?_, by rw [List.length_append, HDL1.out]; rfl, by rw [dec_step D1 low _ j hj9]; exact HS1.out, hb5⟩
              rw [dig_append]
              exact ⟨HD1.out, by intro c hc; simp at hc; omega⟩
            case measure => simp [intOf]; omega
        · have hj2 : j = 9 := by omega
          subst hj2
          have hlow0 : low = 0 := by simp [p10] at hlow; exact hlow
          subst hlow0
          have HS1 := hid hs1
          have HD1 := hid hD1
          have HDL1 := hid hDl1
          have hvlt : val A1 < val A := by
            have h1 := HV1.out
            have h2 : val A1 * 2 ≤ val A1 * d9 := Nat.mul_le_mul_left _ (by rw [HD9.out]; simp [p10])
            by_cases h0 : val A1 = 0
            · omega
            · omega
          have hv2 : val A1 * 2 ^ (k + 1) ≤ val l := by
            have h1 := HV1.out
            have h2 : val A1 * 2 ≤ val A1 * d9 := Nat.mul_le_mul_left _ (by rw [HD9.out]; simp [p10])
            have h3 : val A1 * 2 * 2 ^ k ≤ val A * 2 ^ k := Nat.mul_le_mul_right _ (by omega)
            have h4 := HVK.out
            rw [Nat.pow_succ, Nat.mul_comm (2 ^ k) 2, ← Nat.mul_assoc]
            omega
          have HVL := hid hvlt
          have HV2 := hid hv2
          clear hs1 hD1 hDl1 hvlt hv2 hlow
          go_wp2
          go_roundg (val (A1.take n))
          case measure => rw [HVN.out, HGK.out]; exact HVL.out
          case rel =>
            refine ⟨k + 1, A1.take n, A1.drop n ++ T, D1, rfl, by rw [take_len hn], by rw [take_len hn]; omega, hr4, ok_take hok1 n, hcn, hown4, HD1.out, by rw [HDL1.out]; omega, by rw [HDL1.out]; omega, by rw [HVN.out]; exact HV2.out, ?_, hb4⟩
            have := HS1.out
            simpa [p10] using this

end Go.Proofs.Ytalblhcfkfockaa
