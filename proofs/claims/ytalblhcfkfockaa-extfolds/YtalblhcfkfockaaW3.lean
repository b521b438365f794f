/-
  Walks: small functions of the document's answer.
-/
import Derived.Test.YtalblhcfkfockaaW2
namespace Go.Proofs.Ytalblhcfkfockaa
open Go.RowKit Lm
set_option linter.unusedSimpArgs false
set_option linter.unusedVariables false
set_option maxRecDepth 100000

set_option maxHeartbeats 400000 in
theorem rmay_any (w : World) (neg : Bool) (ao : Option Addr) (cap : Nat) (l : List Nat) (h : SlAt w ao cap l) :
    Calls Try.prog 53 #[.agg #[.bool neg, .slice ao l.length cap]] w fun e w' => e = .returned (.bool (mayB neg l)) ∧ Below w.heap.size w w' := by
  obtain ⟨hok, hlc, hcm, hs⟩ := h
  unfold maxLen at hcm
  rcases hs with ⟨hl0, hnil⟩ | ⟨b, off, rfl, hlt, hc⟩
  · clear hnil
    cases neg
    all_goals
      go_enter Try.func53, Try.ntmps53
      go_wp2
      go_ret
      exact ⟨by simp [mayB, hl0], (by repeat (first | exact Below.refl _ _ | refine Below.alloc ?_ ?_ _ | refine Below.setCell ?_ ?_ _ | refine Below.drew ?_ | refine below_drewN ?_ _ | (· simp) | omega | (· simp; omega) | exact Below.size (by assumption) | assumption | refine below_call ?_ (by assumption) ?_))⟩
  · by_cases hl0 : l.length = 0
    · cases neg
      all_goals
        go_enter Try.func53, Try.ntmps53
        go_wp2
        go_ret
        exact ⟨by simp [mayB, hl0], (by repeat (first | exact Below.refl _ _ | refine Below.alloc ?_ ?_ _ | refine Below.setCell ?_ ?_ _ | refine Below.drew ?_ | refine below_drewN ?_ _ | (· simp) | omega | (· simp; omega) | exact Below.size (by assumption) | assumption | refine below_call ?_ (by assumption) ?_))⟩
    · have hcc := hc (l.length - 1) (by omega)
      go_enter Try.func53, Try.ntmps53
      go_wp2
      go_ret
      refine ⟨ret_bool ?_, (by repeat (first | exact Below.refl _ _ | refine Below.alloc ?_ ?_ _ | refine Below.setCell ?_ ?_ _ | refine Below.drew ?_ | refine below_drewN ?_ _ | (· simp) | omega | (· simp; omega) | exact Below.size (by assumption) | assumption | refine below_call ?_ (by assumption) ?_))⟩
      simp only [mayB, hl0, if_false]
      rw [Bool.eq_iff_iff]
      simp

set_option maxHeartbeats 400000 in
theorem rtrim_any (w : World) (ao : Option Addr) (cap : Nat) (l : List Nat) (h : SlAt w ao cap l) :
    Calls Try.prog 55 #[.slice ao l.length cap] w fun e w' => ∃ n, e = .returned (.slice ao n cap) ∧ w' = w ∧ n ≤ l.length ∧ canon (l.take n) ∧ val (l.take n) = val l := by
  obtain ⟨hok, hlc, hcm, hs⟩ := h
  unfold maxLen at hcm
  rcases hs with ⟨hl0, hnil⟩ | ⟨b, off, rfl, hlt, hc⟩
  · cases ao
    case none =>
      have hcap := hnil rfl
      subst hcap
      clear hnil
      go_enter Try.func55, Try.ntmps55
      go_wp2
      go_loop [3] (fun i => i = .int .i64 0) (fun i => (intOf i).toNat)
      case atStart => rfl
      case round =>
        subst hrel
        go_wp2
        go_ret
        exact ⟨0, rfl, rfl, by simp, canon_nil, by rw [List.eq_nil_of_length_eq_zero hl0]; rfl⟩
    case some ad =>
      clear hnil
      obtain ⟨b, off, sp⟩ := ad
      go_enter Try.func55, Try.ntmps55
      go_wp2
      go_loop [3] (fun i => i = .int .i64 0) (fun i => (intOf i).toNat)
      case atStart => rfl
      case round =>
        subst hrel
        go_wp2
        go_ret
        exact ⟨0, rfl, rfl, by simp, canon_nil, by rw [List.eq_nil_of_length_eq_zero hl0]; rfl⟩
  · go_enter Try.func55, Try.ntmps55
    go_wp2
    go_loop [3] (fun i => ∃ n : Nat, n ≤ l.length ∧ i = .int .i64 n ∧ ∀ j, n ≤ j → l.getD j 0 = 0) (fun i => (intOf i).toNat)
    case atStart => exact ⟨l.length, Nat.le_refl _, rfl, fun j hj => by rw [List.getD_eq_getElem?_getD, List.getElem?_eq_none hj]; rfl⟩
    case round =>
      obtain ⟨n, hn, rfl, hz⟩ := hrel
      by_cases h0 : n = 0
      · subst h0
        have HZ := hid hz
        clear hz
        go_wp2
        go_ret
        exact ⟨0, rfl, rfl, by simp, canon_nil, val_take_zero l 0 HZ.out⟩
      · have hcc := hc (n - 1) (by omega)
        have HZ := hid hz
        clear hz
        go_wp2
        · go_round
          case rel =>
            refine ⟨n - 1, by omega, by go_num, fun j hj => ?_⟩
            by_cases hj1 : j = n - 1
            · subst hj1
              have h1 : (((l[n - 1]?.getD 0 : Nat) : Int) == 0) = true := by assumption
              rw [List.getD_eq_getElem?_getD]
              simp at h1
              omega
            · exact HZ.out j (by omega)
          case measure => simp [intOf]; omega
        · have h1 : (((l[n - 1]?.getD 0 : Nat) : Int) == 0) = false := by assumption
          have h2 : l.getD (n - 1) 0 ≠ 0 := by
            rw [List.getD_eq_getElem?_getD]
            simp at h1
            omega
          go_ret
          exact ⟨n, rfl, rfl, hn, canon_take hn (.inr h2), val_take_zero l n HZ.out⟩

set_option maxHeartbeats 400000 in
theorem rnorm_any (w : World) (neg : Bool) (ao : Option Addr) (cap : Nat) (l : List Nat) (h : SlAt w ao cap l) :
    Calls Try.prog 35 #[.agg #[.bool neg, .slice ao l.length cap]] w fun e w' => e = .returned (if mayB neg l then .agg #[.bool neg, .slice ao l.length cap] else .agg #[.bool false, .slice none 0 0]) ∧ Below w.heap.size w w' := by
  cases hm : mayB neg l
  all_goals
    have HM := hid hm
    clear hm
    go_enter Try.func35, Try.ntmps35
    go_wp2_with fail
    refine (rmay_any _ neg ao cap l (by exact h.below (((Below.refl _ _).alloc (Nat.le_refl _) _).alloc (by simp) _))).mono ?_
    rintro e w1 ⟨rfl, hb⟩
    rw [HM.out]
    obtain ⟨hc1, hf1⟩ := bcell hb
    have hz1 := hb.size
    simp at hz1
    go_wp2
  · exact bodyPost_ret (v := .agg #[.bool false, .slice none 0 0]) (by simp [results, Try.results35, go_sem, hc1]) rfl ⟨rfl, (((below_call (((Below.refl _ _).alloc (Nat.le_refl _) _).alloc (by simp) _) hb (by simp)).setCell (by simp) _).setCell (by simp) _)⟩
  · exact bodyPost_ret (v := .agg #[.bool neg, .slice ao l.length cap]) (by simp [results, Try.results35, go_sem, hc1]) rfl ⟨rfl, (((below_call (((Below.refl _ _).alloc (Nat.le_refl _) _).alloc (by simp) _) hb (by simp)).setCell (by simp) _).setCell (by simp) _)⟩

/-- What counts as a number lies where it lay. -/
theorem rnorm_num (w0 w : World) (v : Value) (n : Nat) (z : Int) (h : Arg w0 v n z) (hw : Below w0.heap.size w0 w) :
    Calls Try.prog 35 #[v] w fun e w' => ∃ neg ao cap l, e = .returned (.agg #[.bool neg, .slice ao l.length cap]) ∧ SlAt w0 ao cap l ∧ l.length ≤ n ∧ mayB neg l = true ∧ z = sgn neg (val l) ∧ Below w.heap.size w w' := by
  obtain ⟨neg, sv, l, rfl, ⟨ao, cap, rfl, hs⟩, hn, hz⟩ := h
  refine (rnorm_any w neg ao cap l (hs.below hw)).mono ?_
  rintro e w' ⟨rfl, hb⟩
  cases hm : mayB neg l
  · refine ⟨false, none, 0, [], by simp, ⟨ok_nil, by simp, by unfold maxLen; omega, .inl ⟨rfl, fun _ => rfl⟩⟩, by simp, by simp [mayB], ?_, hb⟩
    rw [hz]; simp [mean, hm, sgn, val]
  · exact ⟨neg, ao, cap, l, by simp, hs, hn, hm, by rw [hz]; simp [mean, hm], hb⟩

theorem own_shape {w : World} {base : Nat} {v : Value} {n : Nat} {xs : List Value} (h : w.ownsRow base 73 1 v n xs) : ∃ ao cap, v = .slice ao n cap ∧ From base ao := by
  rcases h.2 with ⟨rfl, rfl⟩ | ⟨g, cap, cur, rfl, hb, _⟩
  · exact ⟨none, 0, rfl, fun ad e => by simp at e⟩
  · exact ⟨_, cap, rfl, from_row _ _ _ hb⟩
theorem own_empty (W : World) (base g : Nat) (hg : W.heap.size = g) (h : base ≤ g) : (W.alloc (.cells #[] 73)).ownsRow base 73 1 (.slice (some ⟨g, 0, none⟩) 0 0) 0 [] := by
  subst hg
  exact World.ownsRow_lit W #[] 0 h (by unfold maxLen; omega) (by simp)
theorem src_below {w W : World} {b off cap : Nat} {l : List Nat} (h : SlAt w (some ⟨b, off, none⟩) cap l) (hb : Below w.heap.size w W) :
    ∀ j v, (U l)[j]? = some v → W.cell? ((⟨b, off, none⟩ : Addr).add j) = some v := by
  rcases (h.below hb).2.2.2 with ⟨h, _⟩ | ⟨b', off', e, _, hc'⟩
  · intro j v hv
    have := (List.getElem?_eq_some_iff.1 hv).1
    rw [u_length] at this
    omega
  · simp at e
    obtain ⟨rfl, rfl⟩ := e
    exact SlAt.src hc'
theorem two_slAt (W : World) (g : Nat) (hg : W.heap.size = g) (x y : Int) (a b : Nat) (hx : x = (a : Int)) (hy : y = (b : Int)) (hab : ok [a, b]) :
    SlAt (W.alloc (.cells #[.int .u32 x, .int .u32 y] 73)) (some ⟨g, 0, none⟩) 2 [a, b] := by
  subst hg hx hy
  have : RowAt (W.alloc (.cells #[.int .u32 (a : Int), .int .u32 (b : Int)] 73)) W.heap.size [a, b] := by
    unfold RowAt
    rw [heap_alloc_new]
    simp [U]
  exact this.whole hab (by simp)
theorem own_slAt {w : World} {base : Nat} {ao : Option Addr} {cap : Nat} {l : List Nat} (h : w.ownsRow base 73 1 (.slice ao l.length cap) l.length (U l)) (hok : ok l) : SlAt w ao cap l := by
  obtain ⟨ao', cap', e, hs⟩ := own_sl h hok
  simp only [Value.slice.injEq, true_and] at e
  obtain ⟨rfl, rfl⟩ := e
  exact hs

set_option maxHeartbeats 400000 in
theorem rmk_any (w : World) (neg : Bool) (ao : Option Addr) (cap : Nat) (l : List Nat) (h : SlAt w ao cap l) (hl : l.length ≤ 1000000) :
    Calls Try.prog 39 #[.bool neg, .slice ao l.length cap] w (Told w.heap.size l.length (sgn neg (val l)) w) := by
  obtain ⟨i0, hi, hz0, hz1, hz2⟩ := info_parts Try.info32
  go_enter Try.func39, Try.ntmps39
  go_wp2_with fail
  refine (rtrim_any _ ao cap l (by exact h.below (by repeat (first | exact Below.refl _ _ | refine Below.alloc ?_ ?_ _ | refine Below.setCell ?_ ?_ _ | refine Below.drew ?_ | refine below_drewN ?_ _ | (· simp) | omega | (· simp; omega) | exact Below.size (by assumption) | assumption | refine below_call ?_ (by assumption) ?_)))).mono ?_
  rintro e w1 ⟨n, rfl, rfl, hn, hcn, hv⟩
  have hcm := h.2.2.1
  have hlc := h.2.1
  unfold maxLen at hcm
  have HV := hid hv
  clear hv
  by_cases h0 : n = 0
  · subst h0
    go_wp2
    refine bodyPost_ret (v := .agg #[.bool false, .slice none 0 0]) (by simp [results, Try.results39, go_sem]) rfl ⟨_, _, _, _, rfl, ?_, (by repeat (first | exact Below.refl _ _ | refine Below.alloc ?_ ?_ _ | refine Below.setCell ?_ ?_ _ | refine Below.drew ?_ | refine below_drewN ?_ _ | (· simp) | omega | (· simp; omega) | exact Below.size (by assumption) | assumption | refine below_call ?_ (by assumption) ?_))⟩
    refine ⟨false, _, 0, [], rfl, ⟨ok_nil, by simp, by unfold maxLen; omega, .inl ⟨rfl, fun _ => rfl⟩⟩, fun ad e => by simp at e, by simp, by simp [mayB], ?_⟩
    have : val l = 0 := by rw [← HV.out]; rfl
    rw [this]
    cases neg <;> simp [sgn, val]
  · have hs := h.2.2.2
    rcases hs with ⟨_, _⟩ | ⟨b, off, rfl, hlt, hc⟩
    · omega
    have hu : (U (l.take n)).length = n * 1 := by rw [u_length, take_len hn, Nat.mul_one]
    go_wp2_with (at_builtin; go_must (refine wpList_append_own _ rfl _ _ 25 rfl (w.heap.size + 1) 73 i0 (.int .u32 0) 1 4 Try.underlying25 hi hz0 hz1 hz2 rfl (by decide) (.slice (some ⟨w.heap.size + 1, 0, none⟩) 0 0) 0 [] rfl (own_empty _ _ _ (asize _ _) (Nat.le_refl _)) ⟨b, off, none⟩ n cap (U (l.take n)) rfl hu ?_ (u_one _) (by unfold maxLen; omega) (by omega) ?_ ?_))
    · exact src_below (h.take n hn) (by repeat (first | exact Below.refl _ _ | refine Below.alloc ?_ ?_ _ | refine Below.setCell ?_ ?_ _ | refine Below.drew ?_ | refine below_drewN ?_ _ | (· simp) | omega | (· simp; omega) | exact Below.size (by assumption) | assumption | refine below_call ?_ (by assumption) ?_))
    · simp
    · intro v' w' hown hgrow _
      obtain ⟨ao', cap', rfl, hfrom⟩ := own_shape hown
      have hB : Below (w.heap.size + 1) (w.alloc (.cells #[.bool false, .slice none 0 0] 27)) w' :=
        ((Below.refl _ _).alloc (by simp) _).grown hgrow (by simp) (by intro k hk; simp [Value.ownBlock] at hk; omega)
      have hB0 : Below w.heap.size w w' := ((Below.refl _ _).alloc (Nat.le_refl _) _).trans (hB.mono (by omega))
      have hS := own_slAt (l := l.take n) (by rw [take_len hn]; exact hown) (ok_take h.1 n)
      have hc1 : ∀ b o, b < w.heap.size + 1 → w'.cell? ⟨b, o, none⟩ = (w.alloc (.cells #[.bool false, .slice none 0 0] 27)).cell? ⟨b, o, none⟩ := fun b o h => hB.cell (p := ⟨b, o, none⟩) h
      have hf1 : ∀ b o, b < w.heap.size + 1 → w'.frozen? ⟨b, o, none⟩ = (w.alloc (.cells #[.bool false, .slice none 0 0] 27)).frozen? ⟨b, o, none⟩ := fun b o h => hB.frozen (p := ⟨b, o, none⟩) h
      have HS := hid hS
      have HF := hid hfrom
      clear hown hgrow hS hfrom hc
      go_wp2
      refine bodyPost_ret (v := .agg #[.bool neg, .slice ao' n cap']) (by simp [results, Try.results39, go_sem, hc1]) rfl ⟨_, _, _, _, rfl, ?_, (by repeat (first | exact Below.refl _ _ | refine Below.alloc ?_ ?_ _ | refine Below.setCell ?_ ?_ _ | refine Below.drew ?_ | refine below_drewN ?_ _ | (· simp) | omega | (· simp; omega) | exact Below.size (by assumption) | assumption | refine below_call ?_ (by assumption) ?_))⟩
      refine ⟨neg, _, _, l.take n, by rw [take_len hn], (HS.out.setCell HF.out (by simp) _).setCell HF.out (by simp) _, fun ad e => by have := HF.out ad e; omega, by rw [take_len hn]; exact hn, may_mk hcn (by rw [take_len hn]; exact h0), ?_⟩
      rw [HV.out]

set_option maxHeartbeats 400000 in
theorem rof_num (w : World) (z : Int) (h1 : -9223372036854775808 ≤ z) (h2 : z ≤ 9223372036854775807) :
    Calls Try.prog 21 #[.int .i64 z] w (Told w.heap.size 2 z w) := by
  obtain ⟨m, hm⟩ : ∃ m : Nat, m = z.natAbs := ⟨_, rfl⟩
  have hml : m < 18446744073709551616 := by omega
  have HM := hid hm
  by_cases hz : z < 0
  · have HS := hid ((of_size z h1 hz).trans (by rw [← hm]))
    have HV : Hid (sgn true (val [m % 4294967296, m / 4294967296]) = z) := hid (by rw [val_two]; simp [sgn]; omega)
    clear hm
    go_enter Try.func21, Try.ntmps21
    go_wp2_with fail
    rw [HS.out]
    refine (rmk_any _ true _ 2 [m % 4294967296, m / 4294967296] (by exact two_slAt _ _ (asize _ _) _ _ _ _ (by omega) (by omega) (ok_two hml)) (by simp)).mono ?_
    rintro e w2 ⟨neg', ao', n', cap', rfl, hI, hb2⟩
    obtain ⟨hc2, hf2⟩ := bcell hb2
    have HI := hid hI
    clear hI
    go_wp2
    refine bodyPost_ret (v := .agg #[.bool neg', .slice ao' n' cap']) (by simp [results, Try.results21, go_sem, hc2]) rfl ⟨_, _, _, _, rfl, ?_, (by repeat (first | exact Below.refl _ _ | refine Below.alloc ?_ ?_ _ | refine Below.setCell ?_ ?_ _ | refine Below.drew ?_ | refine below_drewN ?_ _ | (· simp) | omega | (· simp; omega) | exact Below.size (by assumption) | assumption | refine below_call ?_ (by assumption) ?_))⟩
    rw [← HV.out]
    exact ((HI.out.setCell (by simp) _).setCell (by simp) _).mono (by simp) (by simp)
  · have hzm : z = (m : Int) := by omega
    have HV : Hid (sgn false (val [m % 4294967296, m / 4294967296]) = (m : Int)) := hid (by rw [val_two]; simp [sgn])
    clear HM hm
    subst hzm
    go_enter Try.func21, Try.ntmps21
    go_wp2_with fail
    refine (rmk_any _ false _ 2 [m % 4294967296, m / 4294967296] (by exact two_slAt _ _ (asize _ _) _ _ _ _ (by omega) (by omega) (ok_two hml)) (by simp)).mono ?_
    rintro e w2 ⟨neg', ao', n', cap', rfl, hI, hb2⟩
    obtain ⟨hc2, hf2⟩ := bcell hb2
    have HI := hid hI
    clear hI
    go_wp2
    refine bodyPost_ret (v := .agg #[.bool neg', .slice ao' n' cap']) (by simp [results, Try.results21, go_sem, hc2]) rfl ⟨_, _, _, _, rfl, ?_, (by repeat (first | exact Below.refl _ _ | refine Below.alloc ?_ ?_ _ | refine Below.setCell ?_ ?_ _ | refine Below.drew ?_ | refine below_drewN ?_ _ | (· simp) | omega | (· simp; omega) | exact Below.size (by assumption) | assumption | refine below_call ?_ (by assumption) ?_))⟩
    rw [← HV.out]
    exact ((HI.out.setCell (by simp) _).setCell (by simp) _).mono (by simp) (by simp)

theorem rto_step (l : List Nat) (k m : Nat) (hok : ok l) (hl : l.length ≤ 2) (hk0 : 0 < k) (hk : k ≤ l.length) (hm : m = val (l.drop k)) :
    bits BinOp.or IntKind.u64 (IntKind.u64.wrap ((m : Int) * 4294967296)) (IntKind.u64.wrap ((l[k - 1]?.getD 0 : Nat) : Int)) = ((val (l.drop (k - 1)) : Nat) : Int) := by
  have h1 := drop_val l (k - 1) (by omega)
  rw [show k - 1 + 1 = k by omega, ← hm] at h1
  have h2 := ok_getD hok (k - 1)
  have h3 := val_lt (ok_drop hok k)
  have h4 := pw_mono (show (l.drop k).length ≤ 1 by simp; omega)
  simp only [pw] at h4
  rw [← hm] at h3
  rw [List.getD_eq_getElem?_getD] at h1 h2
  rw [h1]
  have e1 : IntKind.u64.wrap ((m : Int) * 4294967296) = ((4294967296 * m : Nat) : Int) := by rw [IntKind.wrap_u64]; omega
  have e2 : IntKind.u64.wrap ((l[k - 1]?.getD 0 : Nat) : Int) = ((l[k - 1]?.getD 0 : Nat) : Int) := by rw [IntKind.wrap_u64]; omega
  rw [e1, e2, u64_or_nat _ _ (by omega) (by omega), nat_join 32 _ _ (by omega) (by omega), Nat.add_comm]

end Go.Proofs.Ytalblhcfkfockaa
