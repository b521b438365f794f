/-
  Walks: small functions of num.
-/
import Derived.Test.YtalblhcfkfockaaBase
namespace Go.Proofs.Ytalblhcfkfockaa
open Go.RowKit Lm
set_option linter.unusedSimpArgs false
set_option linter.unusedVariables false
set_option maxRecDepth 100000

theorem ret_bool {a b : Bool} (h : a = b) : Ending.returned (.bool a) = .returned (.bool b) := by rw [h]
theorem ret_int {k : IntKind} {a b : Int} (h : a = b) : Ending.returned (.int k a) = .returned (.int k b) := by rw [h]

set_option maxHeartbeats 400000 in
theorem may_any (w : World) (neg : Bool) (ao : Option Addr) (cap : Nat) (l : List Nat) (h : SlAt w ao cap l) :
    Calls Try.prog 82 #[.agg #[.bool neg, .slice ao l.length cap]] w fun e w' => e = .returned (.bool (mayB neg l)) ∧ Below w.heap.size w w' := by
  obtain ⟨hok, hlc, hcm, hs⟩ := h
  unfold maxLen at hcm
  rcases hs with ⟨hl0, hnil⟩ | ⟨b, off, rfl, hlt, hc⟩
  · clear hnil
    go_enter Try.func82, Try.ntmps82
    go_wp2
    go_ret
    exact ⟨by simp [mayB, hl0], (Below.refl _ _).alloc (Nat.le_refl _) _⟩
  · by_cases hl0 : l.length = 0
    · go_enter Try.func82, Try.ntmps82
      go_wp2
      go_ret
      exact ⟨by simp [mayB, hl0], (Below.refl _ _).alloc (Nat.le_refl _) _⟩
    · have hcc := hc (l.length - 1) (by omega)
      go_enter Try.func82, Try.ntmps82
      go_wp2
      go_ret
      refine ⟨ret_bool ?_, (Below.refl _ _).alloc (Nat.le_refl _) _⟩
      simp only [mayB, hl0, if_false]
      rw [Bool.eq_iff_iff]
      simp

set_option maxHeartbeats 400000 in
theorem trimmed_any (w : World) (ao : Option Addr) (cap : Nat) (l : List Nat) (h : SlAt w ao cap l) :
    Calls Try.prog 85 #[.slice ao l.length cap] w fun e w' => ∃ n, e = .returned (.slice ao n cap) ∧ w' = w ∧ n ≤ l.length ∧ canon (l.take n) ∧ val (l.take n) = val l := by
  obtain ⟨hok, hlc, hcm, hs⟩ := h
  unfold maxLen at hcm
  rcases hs with ⟨hl0, hnil⟩ | ⟨b, off, rfl, hlt, hc⟩
  · cases ao
    case none =>
      have hcap := hnil rfl
      subst hcap
      clear hnil
      go_enter Try.func85, Try.ntmps85
      go_wp2
      go_loop [3] (fun i => i = .int .i64 0) (fun i => (intOf i).toNat)
      case atStart => rfl
      case round =>
        subst hrel
        go_wp2
        go_ret
        exact ⟨0, rfl, rfl, by simp, canon_nil, by rw [List.eq_nil_of_length_eq_zero hl0]; rfl⟩
    case some ad =>
      clear hnil
      obtain ⟨b, off, sp⟩ := ad
      go_enter Try.func85, Try.ntmps85
      go_wp2
      go_loop [3] (fun i => i = .int .i64 0) (fun i => (intOf i).toNat)
      case atStart => rfl
      case round =>
        subst hrel
        go_wp2
        go_ret
        exact ⟨0, rfl, rfl, by simp, canon_nil, by rw [List.eq_nil_of_length_eq_zero hl0]; rfl⟩
  · go_enter Try.func85, Try.ntmps85
    go_wp2
    go_loop [3] (fun i => ∃ n : Nat, n ≤ l.length ∧ i = .int .i64 n ∧ ∀ j, n ≤ j → l.getD j 0 = 0) (fun i => (intOf i).toNat)
    case atStart => exact ⟨l.length, Nat.le_refl _, rfl, fun j hj => by rw [List.getD_eq_getElem?_getD, List.getElem?_eq_none hj]; rfl⟩
    case round =>
      obtain ⟨n, hn, rfl, hz⟩ := hrel
      by_cases h0 : n = 0
      · subst h0
        have HZ := hid hz
        clear hz
        go_wp2
        go_ret
        exact ⟨0, rfl, rfl, by simp, canon_nil, val_take_zero l 0 HZ.out⟩
      · have hcc := hc (n - 1) (by omega)
        have HZ := hid hz
        clear hz
        go_wp2
        · go_round
          case rel =>
            refine ⟨n - 1, by omega, by go_num, fun j hj => ?_⟩
            by_cases hj1 : j = n - 1
            · subst hj1
              have h1 : (((l[n - 1]?.getD 0 : Nat) : Int) == 0) = true := by assumption
              rw [List.getD_eq_getElem?_getD]
              simp at h1
              omega
            · exact HZ.out j (by omega)
          case measure => simp [intOf]; omega
        · have h1 : (((l[n - 1]?.getD 0 : Nat) : Int) == 0) = false := by assumption
          have h2 : l.getD (n - 1) 0 ≠ 0 := by
            rw [List.getD_eq_getElem?_getD]
            simp at h1
            omega
          go_ret
          exact ⟨n, rfl, rfl, hn, canon_take hn (.inr h2), val_take_zero l n HZ.out⟩

set_option maxHeartbeats 400000 in
theorem counted_any (w : World) (neg : Bool) (ao : Option Addr) (cap : Nat) (l : List Nat) (h : SlAt w ao cap l) :
    Calls Try.prog 63 #[.agg #[.bool neg, .slice ao l.length cap]] w fun e w' => e = .returned (if mayB neg l then .agg #[.bool neg, .slice ao l.length cap] else .agg #[.bool false, .slice none 0 0]) ∧ Below w.heap.size w w' := by
  cases hm : mayB neg l
  all_goals
    have HM := hid hm
    clear hm
    go_enter Try.func63, Try.ntmps63
    go_wp2_with fail
    refine (may_any _ neg ao cap l (by exact h.below (((Below.refl _ _).alloc (Nat.le_refl _) _).alloc (by simp) _))).mono ?_
    rintro e w1 ⟨rfl, hb⟩
    rw [HM.out]
    obtain ⟨hc1, hf1⟩ := bcell hb
    have hz1 := hb.size
    simp at hz1
    go_wp2
  · exact bodyPost_ret (v := .agg #[.bool false, .slice none 0 0]) (by simp [results, Try.results63, go_sem, hc1]) rfl ⟨rfl, (((below_call (((Below.refl _ _).alloc (Nat.le_refl _) _).alloc (by simp) _) hb (by simp)).setCell (by simp) _).setCell (by simp) _)⟩
  · exact bodyPost_ret (v := .agg #[.bool neg, .slice ao l.length cap]) (by simp [results, Try.results63, go_sem, hc1]) rfl ⟨rfl, (((below_call (((Below.refl _ _).alloc (Nat.le_refl _) _).alloc (by simp) _) hb (by simp)).setCell (by simp) _).setCell (by simp) _)⟩

set_option maxHeartbeats 400000 in
theorem copied_any (w : World) (ao : Option Addr) (cap : Nat) (l : List Nat) (h : SlAt w ao cap l) (hl : l.length ≤ 1000000) :
    Calls Try.prog 92 #[.slice ao l.length cap] w fun e w' => e = .returned (.slice (some ⟨w.heap.size, 0, none⟩) l.length l.length) ∧ RowAt w' w.heap.size l ∧ Below w.heap.size w w' := by
  obtain ⟨hok, hlc, hcm, hs⟩ := h
  unfold maxLen at hcm
  obtain ⟨i0, hi, hz0, hz1, hz2⟩ := info_parts Try.info32
  go_enter Try.func92, Try.ntmps92
  go_wp2_with (first
    | (at_make; refine wpList_make_full _ rfl _ _ 25 rfl w.heap.size 73 i0 (.int .u32 0) 1 Try.underlying25 hi hz0 hz1 .i64 .i64 _ _ l.length rfl rfl rfl rfl (by rw [hz2]; omega) (by unfold maxLen; omega) (by simp) ?_; intro w1 hown hgrow; rw [made32] at hown; obtain ⟨hrow, _⟩ := rowAt_of_own hown; have hb1 : Below w.heap.size w w1 := (Below.refl _ _).grown hgrow (Nat.le_refl _) (by simp); clear hown hgrow)
    | (with_reducible refine at_copy ?_; go_must (refine wpList_copy_splice rfl _ _ 25 25 rfl 73 Try.underlying25 Try.size32 _ _ _ _ _ _ rfl rfl w.heap.size 0 (U (List.replicate l.length 0)) 73 hrow.heap (U l) (by simp [u_length, Nat.min_def]) ?_ (by simp [u_length]) (u_one l) w.heap.size w hb1 (Nat.le_refl _) ?_; rotate_left; intro w2 hr2 hb2)))
  · go_ret
    have e : splice (U (List.replicate l.length 0)) 0 (U l) = U l := by
      unfold splice
      rw [List.drop_eq_nil_of_le (by simp [u_length])]
      simp
    rw [e] at hr2
    exact ⟨rfl, hr2.out, hb2⟩
  · intro h0
    rcases hs with ⟨_, _⟩ | ⟨b, off, rfl, hlt, hc⟩
    · simp [u_length] at h0; omega
    · exact ⟨_, rfl, SlAt.src fun i hi => (hb1.cell (p := ⟨b, off + i, none⟩) hlt).trans (hc i hi)⟩

theorem take_len {l : List Nat} {n : Nat} (h : n ≤ l.length) : (l.take n).length = n := by simp; omega

theorem SlAt.take {w : World} {ao : Option Addr} {cap : Nat} {l : List Nat} (h : SlAt w ao cap l) (n : Nat) (hn : n ≤ l.length) : SlAt w ao cap (l.take n) := by
  obtain ⟨h1, h2, h3, h4⟩ := h
  refine ⟨ok_take h1 n, by simp; omega, h3, ?_⟩
  rcases h4 with h4 | ⟨b, off, e, hlt, hc⟩
  · exact .inl ⟨by simp; omega, h4.2⟩
  · refine .inr ⟨b, off, e, hlt, fun i hi => ?_⟩
    rw [take_len hn] at hi
    rw [hc i (by omega)]
    simp [List.getD_eq_getElem?_getD, List.getElem?_take, hi]

/-- What may be, of a sign, canonical limbs that are some. -/
theorem may_mk {neg : Bool} {l : List Nat} (hc : canon l) (hn : l.length ≠ 0) : mayB neg l = true := by
  unfold mayB
  rw [if_neg hn]
  have := canon_last hc (by omega)
  simpa using this

set_option maxHeartbeats 400000 in
theorem made_any (w : World) (lo : Nat) (neg : Bool) (ao : Option Addr) (cap : Nat) (l : List Nat) (h : SlAt w ao cap l) (hf : From lo ao) :
    Calls Try.prog 65 #[.bool neg, .slice ao l.length cap] w fun e w' => ∃ neg' ao' n' cap', e = .returned (.agg #[.bool neg', .slice ao' n' cap']) ∧ Is w' lo (.agg #[.bool neg', .slice ao' n' cap']) l.length (sgn neg (val l)) ∧ Below w.heap.size w w' := by
  go_enter Try.func65, Try.ntmps65
  go_wp2_with fail
  refine (trimmed_any _ ao cap l (by exact h.below ((Below.refl _ _).alloc (Nat.le_refl _) _))).mono ?_
  rintro e w1 ⟨n, rfl, rfl, hn, hcn, hv⟩
  have hcm := h.2.2.1
  have hlc := h.2.1
  unfold maxLen at hcm
  have HV := hid hv
  have HF := hid hf
  clear hv hf
  by_cases h0 : n = 0
  · subst h0
    go_wp2
    refine bodyPost_ret (v := .agg #[.bool false, .slice none 0 0]) (by simp [results, Try.results65, go_sem]) rfl ⟨_, _, _, _, rfl, ?_, (by repeat (first | exact Below.refl _ _ | refine Below.alloc ?_ ?_ _ | refine Below.setCell ?_ ?_ _ | refine Below.drew ?_ | refine below_drewN ?_ _ | (· simp) | omega | (· simp; omega) | exact Below.size (by assumption) | assumption | refine below_call ?_ (by assumption) ?_))⟩
    refine ⟨false, _, 0, [], rfl, ⟨ok_nil, by simp, by unfold maxLen; omega, .inl ⟨rfl, fun _ => rfl⟩⟩, fun ad e => by simp at e, by simp, by simp [mayB], ?_⟩
    have : val l = 0 := by rw [← HV.out]; rfl
    rw [this]
    cases neg <;> simp [sgn, val]
  · go_wp2
    refine bodyPost_ret (v := .agg #[.bool neg, .slice ao n cap]) (by simp [results, Try.results65, go_sem]) rfl ?_
    refine with_fact (p := Below w.heap.size w _) ?_ fun hb => ⟨_, _, _, _, rfl, ?_, hb⟩
    · exact (by repeat (first | exact Below.refl _ _ | refine Below.alloc ?_ ?_ _ | refine Below.setCell ?_ ?_ _ | refine Below.drew ?_ | refine below_drewN ?_ _ | (· simp) | omega | (· simp; omega) | exact Below.size (by assumption) | assumption | refine below_call ?_ (by assumption) ?_))
    refine ⟨neg, _, _, l.take n, by rw [take_len hn], (h.below hb).take n hn, HF.out, by rw [take_len hn]; exact hn, may_mk hcn (by rw [take_len hn]; exact h0), ?_⟩
    rw [HV.out]

end Go.Proofs.Ytalblhcfkfockaa
