/-
  Walks: what is the same; what is great.
-/
import Derived.Test.YtalblhcfkfockaaW3
namespace Go.Proofs.Ytalblhcfkfockaa
open Go.RowKit Lm
set_option linter.unusedSimpArgs false
set_option linter.unusedVariables false
set_option maxRecDepth 100000

theorem num_any (w : World) (n : Int) :
    Calls Try.prog 18 #[.int .i64 n] w fun e w' => e = .returned (.int .i64 n) ∧ w' = w := by
  go_enter Try.func18, Try.ntmps18
  go_wp2
  go_ret
  exact ⟨rfl, rfl⟩

/-- Is one of them above 40? -/
def greatB (L : List Nat) : Bool := L.any (fun n => decide (40 < n))

/-- Are two numbers one, limb by limb? -/
def sameB (na : Bool) (la : List Nat) (nb : Bool) (lb : List Nat) : Bool := decide (na = nb ∧ la = lb)

set_option maxHeartbeats 800000 in
theorem same_any (w : World) (na : Bool) (ao : Option Addr) (ca : Nat) (la : List Nat) (ha : SlAt w ao ca la) (nb : Bool) (bo : Option Addr) (cb : Nat) (lb : List Nat) (hb : SlAt w bo cb lb) :
    Calls Try.prog 48 #[.agg #[.bool na, .slice ao la.length ca], .agg #[.bool nb, .slice bo lb.length cb]] w fun e w' => e = .returned (.bool (sameB na la nb lb)) ∧ Below w.heap.size w w' := by
  have hca := ha.2.2.1
  have hcb := hb.2.2.1
  have hla := ha.2.1
  have hlb := hb.2.1
  unfold maxLen at hca hcb
  by_cases hn : na = nb
  · subst hn
    by_cases hl : la.length = lb.length
    · by_cases h0 : lb.length = 0
      · have HL : Hid (la = lb) := hid (by rw [List.eq_nil_of_length_eq_zero h0, List.eq_nil_of_length_eq_zero (hl.trans h0)])
        rw [hl, h0]
        clear hl
        go_enter Try.func48, Try.ntmps48
        cases na
        all_goals
          go_wp2
          go_loop [5] (fun i => i = .int .i64 0) (fun i => 0)
          case atStart => rfl
          case round =>
            subst hrel
            go_wp2
            go_ret
            exact ⟨ret_bool (by simp [sameB, HL.out]), (by repeat (first | exact Below.refl _ _ | refine Below.alloc ?_ ?_ _ | refine Below.setCell ?_ ?_ _ | refine Below.drew ?_ | refine below_drewN ?_ _ | (· simp) | omega | (· simp; omega) | exact Below.size (by assumption) | assumption | refine below_call ?_ (by assumption) ?_))⟩
      · rcases ha.2.2.2 with ⟨_, _⟩ | ⟨b1, o1, rfl, hlt1, hc1⟩
        · omega
        rcases hb.2.2.2 with ⟨_, _⟩ | ⟨b2, o2, rfl, hlt2, hc2⟩
        · omega
        rw [hl] at hc1 ⊢
        have HL := hid hl
        clear hl hla
        go_enter Try.func48, Try.ntmps48
        cases na
        · go_wp2
          go_loopw [5] (fun i wr => ∃ k : Nat, k ≤ lb.length ∧ i = .int .i64 k ∧ Hid (la.take k = lb.take k) ∧ Below (w.heap.size + 1 + 1) ((w.alloc (.cells #[.bool false, .slice (some ⟨b1, o1, none⟩) lb.length ca] 27)).alloc (.cells #[.bool false, .slice (some ⟨b2, o2, none⟩) lb.length cb] 27)) wr) (fun i wr => lb.length - (intOf i).toNat)
          case atStart => exact ⟨0, Nat.zero_le _, rfl, rfl, Below.refl _ _⟩
          case round =>
            obtain ⟨k, hk, rfl, HK, hbw⟩ := hrel
            have hp0 : wr.cell? ⟨w.heap.size, 1, none⟩ = some (.slice (some ⟨b1, o1, none⟩) lb.length ca) := (hbw.cell (by simp)).trans (by simp [go_sem])
            have hp1 : wr.cell? ⟨w.heap.size + 1, 1, none⟩ = some (.slice (some ⟨b2, o2, none⟩) lb.length cb) := (hbw.cell (by simp)).trans (by simp [go_sem])
            by_cases hlt : k < lb.length
            · have hb0 : Below w.heap.size w wr := (show Below w.heap.size w _ from (by repeat (first | exact Below.refl _ _ | refine Below.alloc ?_ ?_ _ | refine Below.setCell ?_ ?_ _ | refine Below.drew ?_ | refine below_drewN ?_ _ | (· simp) | omega | (· simp; omega) | exact Below.size (by assumption) | assumption | refine below_call ?_ (by assumption) ?_))).trans (hbw.mono (by simp))
              have hx := (hb0.cell (p := ⟨b1, o1 + k, none⟩) hlt1).trans (hc1 k hlt)
              have hy := (hb0.cell (p := ⟨b2, o2 + k, none⟩) hlt2).trans (hc2 k hlt)
              have hka : k < la.length := by rw [HL.out]; exact hlt
              go_wp2
              go_quiet (fail)
              go_wp2
              · have h1 : (((la[k] : Nat) : Int) != ((lb[k] : Nat) : Int)) = true := by assumption
                go_ret
                refine ⟨ret_bool ?_, (by repeat (first | exact Below.refl _ _ | refine Below.alloc ?_ ?_ _ | refine Below.setCell ?_ ?_ _ | refine Below.drew ?_ | refine below_drewN ?_ _ | (· simp) | omega | (· simp; omega) | exact Below.size (by assumption) | assumption | refine below_call ?_ (by assumption) ?_))⟩
                simp [sameB]
                intro e
                subst e
                simp at h1
              · have h1 : (((la[k] : Nat) : Int) != ((lb[k] : Nat) : Int)) = false := by assumption
                go_roundw
                case rel =>
                  refine ⟨k + 1, by omega, by go_num, ?_, (by repeat (first | exact Below.refl _ _ | refine Below.alloc ?_ ?_ _ | refine Below.setCell ?_ ?_ _ | refine Below.drew ?_ | refine below_drewN ?_ _ | (· simp) | omega | (· simp; omega) | exact Below.size (by assumption) | assumption | refine below_call ?_ (by assumption) ?_))⟩
                  show List.take (k + 1) la = List.take (k + 1) lb
                  rw [List.take_succ_eq_append_getElem hka, List.take_succ_eq_append_getElem hlt, HK.out]
                  simp at h1
                  rw [show la[k] = lb[k] by omega]
                case measure => simp [intOf]; omega
            · have hb0 : Below w.heap.size w wr := (show Below w.heap.size w _ from (by repeat (first | exact Below.refl _ _ | refine Below.alloc ?_ ?_ _ | refine Below.setCell ?_ ?_ _ | refine Below.drew ?_ | refine below_drewN ?_ _ | (· simp) | omega | (· simp; omega) | exact Below.size (by assumption) | assumption | refine below_call ?_ (by assumption) ?_))).trans (hbw.mono (by simp))
              go_wp2
              go_ret
              refine ⟨ret_bool ?_, hb0⟩
              have h1 := HK.out
              rw [List.take_of_length_le (by rw [HL.out]; omega), List.take_of_length_le (by omega)] at h1
              simp [sameB, h1]
        · go_wp2
          go_loopw [5] (fun i wr => ∃ k : Nat, k ≤ lb.length ∧ i = .int .i64 k ∧ Hid (la.take k = lb.take k) ∧ Below (w.heap.size + 1 + 1) ((w.alloc (.cells #[.bool true, .slice (some ⟨b1, o1, none⟩) lb.length ca] 27)).alloc (.cells #[.bool true, .slice (some ⟨b2, o2, none⟩) lb.length cb] 27)) wr) (fun i wr => lb.length - (intOf i).toNat)
          case atStart => exact ⟨0, Nat.zero_le _, rfl, rfl, Below.refl _ _⟩
          case round =>
            obtain ⟨k, hk, rfl, HK, hbw⟩ := hrel
            have hp0 : wr.cell? ⟨w.heap.size, 1, none⟩ = some (.slice (some ⟨b1, o1, none⟩) lb.length ca) := (hbw.cell (by simp)).trans (by simp [go_sem])
            have hp1 : wr.cell? ⟨w.heap.size + 1, 1, none⟩ = some (.slice (some ⟨b2, o2, none⟩) lb.length cb) := (hbw.cell (by simp)).trans (by simp [go_sem])
            by_cases hlt : k < lb.length
            · have hb0 : Below w.heap.size w wr := (show Below w.heap.size w _ from (by repeat (first | exact Below.refl _ _ | refine Below.alloc ?_ ?_ _ | refine Below.setCell ?_ ?_ _ | refine Below.drew ?_ | refine below_drewN ?_ _ | (· simp) | omega | (· simp; omega) | exact Below.size (by assumption) | assumption | refine below_call ?_ (by assumption) ?_))).trans (hbw.mono (by simp))
              have hx := (hb0.cell (p := ⟨b1, o1 + k, none⟩) hlt1).trans (hc1 k hlt)
              have hy := (hb0.cell (p := ⟨b2, o2 + k, none⟩) hlt2).trans (hc2 k hlt)
              have hka : k < la.length := by rw [HL.out]; exact hlt
              go_wp2
              go_quiet (fail)
              go_wp2
              · have h1 : (((la[k] : Nat) : Int) != ((lb[k] : Nat) : Int)) = true := by assumption
                go_ret
                refine ⟨ret_bool ?_, (by repeat (first | exact Below.refl _ _ | refine Below.alloc ?_ ?_ _ | refine Below.setCell ?_ ?_ _ | refine Below.drew ?_ | refine below_drewN ?_ _ | (· simp) | omega | (· simp; omega) | exact Below.size (by assumption) | assumption | refine below_call ?_ (by assumption) ?_))⟩
                simp [sameB]
                intro e
                subst e
                simp at h1
              · have h1 : (((la[k] : Nat) : Int) != ((lb[k] : Nat) : Int)) = false := by assumption
                go_roundw
                case rel =>
                  refine ⟨k + 1, by omega, by go_num, ?_, (by repeat (first | exact Below.refl _ _ | refine Below.alloc ?_ ?_ _ | refine Below.setCell ?_ ?_ _ | refine Below.drew ?_ | refine below_drewN ?_ _ | (· simp) | omega | (· simp; omega) | exact Below.size (by assumption) | assumption | refine below_call ?_ (by assumption) ?_))⟩
                  show List.take (k + 1) la = List.take (k + 1) lb
                  rw [List.take_succ_eq_append_getElem hka, List.take_succ_eq_append_getElem hlt, HK.out]
                  simp at h1
                  rw [show la[k] = lb[k] by omega]
                case measure => simp [intOf]; omega
            · have hb0 : Below w.heap.size w wr := (show Below w.heap.size w _ from (by repeat (first | exact Below.refl _ _ | refine Below.alloc ?_ ?_ _ | refine Below.setCell ?_ ?_ _ | refine Below.drew ?_ | refine below_drewN ?_ _ | (· simp) | omega | (· simp; omega) | exact Below.size (by assumption) | assumption | refine below_call ?_ (by assumption) ?_))).trans (hbw.mono (by simp))
              go_wp2
              go_ret
              refine ⟨ret_bool ?_, hb0⟩
              have h1 := HK.out
              rw [List.take_of_length_le (by rw [HL.out]; omega), List.take_of_length_le (by omega)] at h1
              simp [sameB, h1]
    · have hl2 : ((la.length : Int) != (lb.length : Int)) = true := by simp; omega
      have HF : Hid (sameB na la na lb = false) := hid (by simp [sameB]; intro e; exact hl (by rw [e]))
      go_enter Try.func48, Try.ntmps48
      cases na
      all_goals
        go_wp2
        go_ret
        exact ⟨ret_bool HF.out.symm, (by repeat (first | exact Below.refl _ _ | refine Below.alloc ?_ ?_ _ | refine Below.setCell ?_ ?_ _ | refine Below.drew ?_ | refine below_drewN ?_ _ | (· simp) | omega | (· simp; omega) | exact Below.size (by assumption) | assumption | refine below_call ?_ (by assumption) ?_))⟩
  · have HF : Hid (sameB na la nb lb = false) := hid (by simp [sameB, hn])
    cases na <;> cases nb <;> simp at hn
    all_goals
      go_enter Try.func48, Try.ntmps48
      go_wp2
      go_ret
      exact ⟨ret_bool HF.out.symm, (by repeat (first | exact Below.refl _ _ | refine Below.alloc ?_ ?_ _ | refine Below.setCell ?_ ?_ _ | refine Below.drew ?_ | refine below_drewN ?_ _ | (· simp) | omega | (· simp; omega) | exact Below.size (by assumption) | assumption | refine below_call ?_ (by assumption) ?_))⟩

theorem sgn_may_inj {na nb : Bool} {la lb : List Nat} (ha : mayB na la = true) (hb : mayB nb lb = true) (oa : ok la) (ob : ok lb) :
    sameB na la nb lb = decide (sgn na (val la) = sgn nb (val lb)) := by
  unfold sameB
  rw [decide_eq_decide]
  constructor
  · rintro ⟨rfl, rfl⟩; rfl
  · intro h
    have hv : val la = val lb := by rw [← sgn_abs na (val la), ← sgn_abs nb (val lb), h]
    have hl : la = lb := canon_inj oa ob (may_canon ha) (may_canon hb) hv
    subst hl
    refine ⟨?_, rfl⟩
    by_cases h0 : la.length = 0
    · simp [mayB, h0] at ha hb
      rw [ha, hb]
    · have hp := canon_pos (may_canon ha) (by intro e; subst e; simp at h0)
      have hq := pw_pos (la.length - 1)
      cases na <;> cases nb <;> simp [sgn] at h ⊢ <;> omega

theorem same_num (w : World) (v v' : Value) (n n' lo lo' : Nat) (x x' : Int) (h : Is w lo v n x) (h' : Is w lo' v' n' x') :
    Calls Try.prog 48 #[v, v'] w fun e w' => e = .returned (.bool (decide (x = x'))) ∧ Below w.heap.size w w' := by
  obtain ⟨na, ao, ca, la, rfl, ha, _, _, hma, rfl⟩ := h
  obtain ⟨nb, bo, cb, lb, rfl, hb, _, _, hmb, rfl⟩ := h'
  refine (same_any w na ao ca la ha nb bo cb lb hb).mono ?_
  rintro e w' ⟨rfl, hw⟩
  exact ⟨by rw [sgn_may_inj hma hmb ha.1 hb.1], hw⟩

end Go.Proofs.Ytalblhcfkfockaa
