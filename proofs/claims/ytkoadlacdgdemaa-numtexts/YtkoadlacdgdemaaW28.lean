/-
  Walks: the limbs of digits.
-/
import Derived.Test.YtkoadlacdgdemaaW27
import Derived.Test.YtkoadlacdgdemaaW15
namespace Go.Proofs.Ytkoadlacdgdemaa
open Go.RowKit Lm
set_option linter.unusedSimpArgs false
set_option linter.unusedVariables false
set_option maxRecDepth 100000

theorem take_get (l : List Nat) (k : Nat) (h : k < l.length) : l.take (k + 1) = l.take k ++ [l.getD k 0] := by
  rw [List.take_succ_eq_append_getElem h, List.getD_eq_getElem?_getD, List.getElem?_eq_getElem h]; rfl

set_option maxHeartbeats 1600000 in
theorem groupOf_any (w : World) (s : ByteArray) (hs : s.size ≤ 9) (hd : dig (lst s)) :
    Calls Try.prog 72 #[.string s] w fun e w' => e = .returned (.int .u32 ((dval (lst s) : Nat) : Int)) ∧ w' = w := by
  have HD := hid hd
  clear hd
  go_enter Try.func72, Try.ntmps72
  go_wp2
  go_loop [3, 7] (fun nv iv => ∃ k n : Nat, k ≤ s.size ∧ iv = .int .i64 (k : Int) ∧ nv = .int .u32 (n : Int) ∧ Hid (n = dval ((lst s).take k))) (fun _ iv => s.size - (intOf iv).toNat)
  case atStart => exact ⟨0, 0, Nat.zero_le _, rfl, rfl, rfl⟩
  case round =>
    obtain ⟨k, n, hk, rfl, rfl, HN⟩ := hrel
    by_cases hlt : k < s.size
    · have hlti : (k : Int) < (s.size : Int) := by omega
      obtain ⟨hx1, hx2⟩ := dig_at HD.out k hlt
      have hn : n < 100000000 := by
        have h1 := dval_lt (dig_take HD.out k)
        rw [← HN.out] at h1
        have h2 := p10_mono (show ((lst s).take k).length ≤ 8 by rw [List.length_take, lst_length]; omega)
        simp only [p10] at h2
        omega
      have HG := hid (lst_getD s k hlt)
      have hx1i : (48 : Int) ≤ (s[k].toNat : Int) := by omega
      have hx2i : (s[k].toNat : Int) ≤ 57 := by omega
      go_wp2
      go_round
      case rel =>
        refine ⟨k + 1, n * 10 + (s[k].toNat - 48), hlt, by go_num, by go_num, ?_⟩
        show _ = _
        rw [take_get _ _ (by rw [lst_length]; exact hlt), dval_snoc, ← HN.out, HG.out]
      case measure => simp [intOf]; omega
    · have HN2 : Hid (n = dval (lst s)) := hid (by rw [HN.out, List.take_of_length_le (by rw [lst_length]; omega)])
      go_wp2
      go_ret
      exact ⟨ret_u32 (by rw [HN2.out]), rfl⟩

/-- Limbs of the call's own. -/
def TBPost (w0 : World) (L V : Nat) (e : Ending) (w' : World) : Prop :=
  ∃ (ao : Option Addr) (cap k : Nat) (l : List Nat), e = .returned (.slice ao k cap) ∧ Hid (k = l.length) ∧ w'.ownsRow w0.heap.size 68 1 (.slice ao k cap) k (U l) ∧ ok l ∧ val l = V ∧ l.length ≤ L ∧ Below w0.heap.size w0 w'

theorem tb_step {l C : List Nat} {k c n : Nat} (hkC : k < C.length) (hkl : k < l.length) (hv : val (C.take k) + pw k * c = val (l.take k) * 1000000000 + n) :
    val ((C.set k ((l.getD k 0 * 1000000000 + c) % 4294967296)).take (k + 1)) + pw (k + 1) * ((l.getD k 0 * 1000000000 + c) / 4294967296) = val (l.take (k + 1)) * 1000000000 + n := by
  rw [take_set_succ hkC, val_take_succ l k hkl, pw_succ_mul]
  have h1 := Nat.div_add_mod (l.getD k 0 * 1000000000 + c) 4294967296
  have h2 := congrArg (pw k * ·) h1
  simp only [Nat.mul_add] at h2
  rw [Nat.add_mul, Nat.mul_assoc (pw k)]
  generalize pw k * (4294967296 * ((l.getD k 0 * 1000000000 + c) / 4294967296)) = X at *
  generalize pw k * ((l.getD k 0 * 1000000000 + c) % 4294967296) = Y at *
  generalize pw k * (l.getD k 0 * 1000000000) = Z at *
  omega
theorem own_set {w : World} {base g cap k x i : Nat} {C : List Nat} (h : w.ownsRow base 68 1 (.slice (some ⟨g, 0, none⟩) k cap) k (U C)) : (w.setCell ⟨g, i, none⟩ (.int .u32 (x : Int))).ownsRow base 68 1 (.slice (some ⟨g, 0, none⟩) k cap) k (U (C.set i x)) := by
  have := h.stored i (.int .u32 (x : Int))
  rw [show U (C.set i x) = (U C).set i (.int .u32 (x : Int)) by simp [U, List.map_set]]
  exact this.1
theorem own_some {w : World} {base : Nat} {ao : Option Addr} {cap k : Nat} {xs : List Value} (h : w.ownsRow base 68 1 (.slice ao k cap) k xs) (hk : 0 < k) : ∃ g, ao = some ⟨g, 0, none⟩ ∧ base ≤ g ∧ k ≤ cap ∧ cap ≤ maxLen := by
  rcases h.2 with ⟨h', h0⟩ | ⟨g, cap', cur, h', hbg, hg, hnc, hcm, hcs, htake⟩
  · omega
  · simp only [Value.slice.injEq, true_and] at h'
    obtain ⟨rfl, rfl⟩ := h'
    exact ⟨g, rfl, hbg, hnc, hcm⟩
theorem own_capm {w : World} {base : Nat} {ao : Option Addr} {cap k : Nat} {xs : List Value} (h : w.ownsRow base 68 1 (.slice ao k cap) k xs) : k ≤ cap ∧ cap ≤ maxLen := by
  rcases h.2 with ⟨h', h0⟩ | ⟨g, cap', cur, h', hbg, hg, hnc, hcm, hcs, htake⟩
  · simp only [Value.slice.injEq] at h'
    obtain ⟨rfl, rfl, rfl⟩ := h'
    exact ⟨Nat.le_refl _, by unfold maxLen; omega⟩
  · simp only [Value.slice.injEq, true_and] at h'
    obtain ⟨rfl, rfl⟩ := h'
    exact ⟨hnc, hcm⟩

set_option maxHeartbeats 3200000 in
theorem timesBase_any (w0 w : World) (ao : Option Addr) (cap k0 : Nat) (l : List Nat) (n : Nat) (hk0 : k0 = l.length) (hown : w.ownsRow w0.heap.size 68 1 (.slice ao k0 cap) k0 (U l)) (hok : ok l) (hl : l.length ≤ 1000000) (hn : n < 4294967296) (hb : Below w0.heap.size w0 w) :
    Calls Try.prog 71 #[.slice ao k0 cap, .int .u32 (n : Int)] w (TBPost w0 (l.length + 1) (val l * 1000000000 + n)) := by
  subst hk0
  obtain ⟨hcl, hcm⟩ := own_capm hown
  unfold maxLen at hcm
  obtain ⟨i0, hi, hz0, hz1, hz2⟩ := info_parts Try.info32
  go_enter Try.func71, Try.ntmps71
  go_wp2
  go_loopw [5, 13] (fun cv iv wr => ∃ (k c : Nat) (C : List Nat), k ≤ l.length ∧ iv = .int .i64 (k : Int) ∧ cv = .int .u64 (c : Int) ∧ c < 4294967296 ∧ Hid (C.length = l.length) ∧ ok C ∧ Hid (C.drop k = l.drop k) ∧ Hid (val (C.take k) + pw k * c = val (l.take k) * 1000000000 + n) ∧ wr.ownsRow w0.heap.size 68 1 (.slice ao l.length cap) l.length (U C) ∧ Below w0.heap.size w0 wr) (fun _ iv _ => l.length - (intOf iv).toNat)
  case atStart => exact ⟨0, n, l, Nat.zero_le _, rfl, rfl, hn, rfl, hok, rfl, by simp [val, Hid, pw], hown, hb⟩
  case round =>
    obtain ⟨k, c, C, hk, rfl, rfl, hc, HL, hokC, HD, HV, hrow, hbw⟩ := hrel
    by_cases hlt : k < l.length
    · obtain ⟨g, rfl, hg, -, -⟩ := own_some hrow (by omega)
      have hx : wr.cell? ⟨g, k, none⟩ = some (.int .u32 ((l.getD k 0 : Nat) : Int)) := by
        rw [hrow.cellAt k (by omega), ← drop_getD HD.out]
        have : k < C.length := by rw [HL.out]; exact hlt
        simp [U, List.getD_eq_getElem?_getD, this]
      have hfz := hrow.frozenAt k
      have hxb := ok_getD hok k
      have HT := hid (tb_step (by rw [HL.out]; exact hlt) hlt HV.out)
      obtain ⟨x, hxe⟩ : ∃ x, x = l.getD k 0 := ⟨_, rfl⟩
      rw [← hxe] at hx hxb HT
      clear hxe
      go_wp2
      go_roundw
      case rel =>
        have e1 : ((x : Int) * 1000000000 + c) % 4294967296 = (((x * 1000000000 + c) % 4294967296 : Nat) : Int) := by omega
        rw [e1]
        exact ⟨k + 1, (x * 1000000000 + c) / 4294967296, C.set k ((x * 1000000000 + c) % 4294967296), hlt, by go_num, by go_num, by omega, by rw [Hid, List.length_set]; exact HL.out, ok_set hokC _ _ (Nat.mod_lt _ (by omega)), set_drop_succ HD.out, HT.out, own_set hrow, hbw.setCell hg _⟩
      case measure => simp [intOf]; omega
    · have hke : k = l.length := by omega
      subst hke
      have HV2 : Hid (val C + pw l.length * c = val l * 1000000000 + n) := hid (by
        have := HV.out
        rwa [List.take_length, List.take_of_length_le (by rw [HL.out]; omega)] at this)
      by_cases hc0 : c = 0
      · subst hc0
        have HF : Hid (TBPost w0 (l.length + 1) (val l * 1000000000 + n) (.returned (.slice ao l.length cap)) wr) := ⟨ao, cap, l.length, C, rfl, HL.out.symm, hrow, hokC, by have := HV2.out; simpa using this, by rw [HL.out]; omega, hbw⟩
        go_wp2
        go_ret
        exact HF.out
      · go_wp2_with (at_builtin; go_must (refine wpList_append_own _ rfl _ _ 22 rfl w0.heap.size 68 i0 (.int .u32 0) 1 4 Try.underlying22 hi hz0 hz1 hz2 rfl (by decide) _ _ _ rfl (hrow.alloc _) ⟨wr.heap.size, 0, none⟩ 1 1 [.int .u32 (c : Int)] rfl rfl ?_ ?_ ?_ ?_ ?_ ?_))
        · intro q u hq
          match q, hq with
          | 0, hq => simp at hq; subst hq; simp [Addr.add]
        · intro u hu; simp at hu; subst hu; rfl
        · unfold maxLen; omega
        · omega
        · have := hbw.size; simp; omega
        · intro v' w5 hown5 hgrow _
          have hb5 : Below w0.heap.size w0 w5 := (hbw.alloc hbw.size _).grown hgrow (by simp; have := hbw.size; omega) (fun q e => by have := (hrow.lt _ e).1; omega)
          have e1 : U C ++ [.int .u32 (c : Int)] = U (C ++ [c]) := by simp [U]
          rw [e1] at hown5
          obtain ⟨ao5, cap5, rfl, hfr5⟩ := own_shape hown5
          have HF : Hid (TBPost w0 (l.length + 1) (val l * 1000000000 + n) (.returned (.slice ao5 (l.length + 1) cap5)) w5) := by
            refine ⟨ao5, cap5, l.length + 1, C ++ [c], rfl, by rw [Hid, List.length_append, HL.out]; rfl, hown5, ok_append.2 ⟨hokC, by rw [ok_cons]; exact ⟨hc, ok_nil⟩⟩, ?_, by rw [List.length_append, HL.out]; exact Nat.le_refl _, hb5⟩
            rw [val_append, HL.out, ← HV2.out]
            simp [val]
          clear hown5 hgrow
          go_wp2
          go_ret
          exact HF.out

end Go.Proofs.Ytkoadlacdgdemaa
