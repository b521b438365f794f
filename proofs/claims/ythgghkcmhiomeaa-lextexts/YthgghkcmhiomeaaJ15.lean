/-
  Walks: the law LexTexts.
-/
import Derived.Test.YthgghkcmhiomeaaJ14
import Derived.Test.YthgghkcmhiomeaaJ12
import Derived.Test.YthgghkcmhiomeaaJ9
import Derived.Test.YthgghkcmhiomeaaJ10
import Derived.Deep.RegionHeld3
namespace Go.Proofs.Ythgghkcmhiomeaa
open Go.RowKit Lx
set_option linter.unusedSimpArgs false
set_option linter.unusedVariables false
set_option maxRecDepth 100000

/-- What stands at the head of a round. -/
def TxRel (w : World) (s : ByteArray) (L : List Tk) (nv iv : Value) (wr : World) : Prop :=
  ∃ (n i : Nat), i ≤ L.length ∧ n ≤ s.size ∧ nv = .int .i64 (n : Int) ∧ iv = .int .i64 (i : Int) ∧ (i < L.length → Chain (lst s) n (L.drop i)) ∧ Below w.heap.size w wr

theorem blank_facts {c : Nat} (h : isB c = true) : (c : Int) = 32 ∨ (¬ (c : Int) = 32 ∧ (c : Int) = 9) ∨ (¬ (c : Int) = 32 ∧ ¬ (c : Int) = 9 ∧ (c : Int) = 10) ∨ (¬ (c : Int) = 32 ∧ ¬ (c : Int) = 9 ∧ ¬ (c : Int) = 10 ∧ (c : Int) = 13) := by
  have h2 := isB_yes h
  omega
set_option maxHeartbeats 6400000 in
theorem lexTexts_any (w : World) (s : ByteArray) (hs : s.size ≤ maxLen) : Calls Try.prog 4 #[.string s] w fun e w' => e = .returned (.bool true) ∧ Below w.heap.size w w' := by
  unfold maxLen at hs
  have hs2 : s.size ≤ 9223372036854775807 := by omega
  by_cases h1 : 2000 < s.size
  · have h2i : (2000 : Int) < (s.size : Int) := by omega
    go_enter Try.func4, Try.ntmps4
    go_wp2_with (go_at_call 7; refine (awake_any _).mono ?_; rintro e w1 ⟨rfl, hb⟩)
    go_ret
    exact ⟨rfl, hb⟩
  · have h2i : ¬ (2000 : Int) < (s.size : Int) := by omega
    have hle : s.size ≤ 2000 := by omega
    clear h1
    by_cases hx : (lexS (lst s)).2.1 = 0
    · have HC := hid (chain_lex (lst s) hx)
      have hx0 : (((lexS (lst s)).2.1 : Int) == 0) = true := by simp; omega
      clear hx
      go_enter Try.func4, Try.ntmps4
      go_wp2_with fail
      refine (lex_any _ s hs2).mono ?_
      rintro e w1 ⟨u, rfl, hO1, hb1⟩
      have HR1 := hO1.rd
      generalize (lexS (lst s)).1 = L at *
      generalize (lexS (lst s)).2.1 = x at *
      obtain rfl : x = 0 := by simp at hx0; omega
      generalize (lexS (lst s)).2.2 = pl at *
      have hne : ¬ L.length = 0 := by
        intro h
        have := HC.out
        rw [List.eq_nil_of_length_eq_zero h] at this
        exact this
      obtain ⟨ao, cap, rfl, a1, a2, a3⟩ := HR1
      unfold maxLen at a2
      obtain ⟨g, rfl, hg, hA⟩ := a3.resolve_left hne
      obtain ⟨N, hN⟩ : ∃ N, N = L.length := ⟨_, rfl⟩
      rw [← hN] at a1 ⊢
      have HN := hid hN
      have HA := hid hA
      clear a3 hA hN hO1
      go_wp2_with (go_at_call 11; refine (num_any _ _).mono ?_; rintro e w4 ⟨rfl, hw4⟩; subst w4)
      go_loopw [6, 7] (fun nv iv wr => TxRel w1 s L nv iv wr) (fun nv iv wr => N - (intOf iv).toNat)
      case atStart => exact ⟨0, 0, Nat.zero_le _, Nat.zero_le _, rfl, rfl, fun _ => HC.out, Below.refl _ _⟩
      case round =>
        obtain ⟨n, i, hi, hn, rfl, rfl, hch, hbw⟩ := hrel
        rw [← HN.out] at hi hch
        by_cases hlt : i < N
        · have hch2 := hch hlt
          have hdrop : L.drop i = L[i]'(by have := HN.out; omega) :: L.drop (i + 1) := List.drop_eq_getElem_cons _
          rw [hdrop] at hch2
          obtain ⟨p0, p1, p2⟩ := (HA.out i (by have := HN.out; omega)).below hg hbw
          generalize L[i]'(by have := HN.out; omega) = t at *
          obtain ⟨t1, t2, t3, t4, t5, t6⟩ := hch2
          have hii : (i : Int) < (N : Int) := by omega
          have hi0 : (0 : Int) ≤ (i : Int) := by omega
          obtain ⟨m, hm⟩ : ∃ m, m = t.t.length := ⟨_, rfl⟩
          rw [← hm] at t2 t3 t6
          rw [lst_length] at t2
          have hst : s.extract t.p (t.p + m) = str t.t := by
            rw [ext_str, show t.p + m - t.p = m by omega, ← t3]
          have hz : (str t.t).size = m := by rw [str_size, hm]
          have f1 : ¬ (t.p : Int) < (n : Int) := by omega
          have f3 : ¬ (s.size : Int) < (t.p : Int) + (m : Int) := by omega
          have f4 : (t.p : Int) + (m : Int) ≤ (s.size : Int) := by omega
          have d1 : decide (t.p < n) = false := by simp; omega
          have d2 : decide ((t.p : Int) < (n : Int)) = false := by simp; omega
          have d3 : decide (s.size < t.p + m) = false := by simp; omega
          have d4 : decide ((s.size : Int) < (t.p : Int) + (m : Int)) = false := by simp; omega
          have hT : ((str t.t).toList == (str t.t).toList) = true := by simp
          have hlast : (str t.t).toList.isEmpty = ((i : Int) == (N : Int) - 1) := by
            have e1 : (str t.t).toList.isEmpty = true ↔ t.t = [] := by
              rw [List.isEmpty_iff]
              constructor
              · intro h
                have h2 : (str t.t).toList.length = 0 := by rw [h]; rfl
                rw [toList_len, hz, hm] at h2
                exact List.eq_nil_of_length_eq_zero h2
              · intro h; rw [h, str_nil, ByteArray.toList_mk]
            rw [Bool.eq_iff_iff, e1, t5, List.drop_eq_nil_iff, ← HN.out]
            simp
            omega
          have HST := hid hst
          have T4 := hid t4
          have T6 := hid t6
          have HM := hid hm
          have hbb := TkBox.new wr (.int .i64 (t.k : Int)) (.string (str t.t)) (.int .i64 (t.p : Int))
          obtain ⟨b0, b1, b2⟩ := hbb.c
          have bl := hbb.lt
          clear t3 t4 t5 t6 hch hdrop hm hst
          have hst := HST.out
          cases hb : ((i : Int) == (N : Int) - 1)
          all_goals
            rw [hb] at hlast
            go_wp2_with fail
            go_quiet (fail)
            go_wp2_with fail
            have HBW := hid (below_drewN (hbw.alloc hbw.size (.cells #[.int .i64 (t.k : Int), .string (str t.t), .int .i64 (t.p : Int)] 33)) nq)
            clear p0 p1 p2 d1 d2 d3 d4 hT hlast hst hb f1 f3 f4
            go_loop [9, 10] (fun rv kv => ∃ (k : Nat) (rb : Bool), n ≤ k ∧ k ≤ t.p ∧ rv = .bool rb ∧ kv = .int .i64 (k : Int) ∧ Hid (gapOk rb (((lst s).drop k).take (t.p - k)) = true)) (fun rv kv => t.p - (intOf kv).toNat)
            case atStart => exact ⟨n, false, Nat.le_refl _, t1, rfl, rfl, T4⟩
            case round =>
              obtain ⟨k, rb, hk1, hk2, rfl, rfl, HG⟩ := hrel
              by_cases hkl : k < t.p
              · have hks : k < s.size := by omega
                have hst2 : ((lst s).drop k).take (t.p - k) = s[k].toNat :: ((lst s).drop (k + 1)).take (t.p - (k + 1)) := by
                  rw [lst_drop s k hks, show t.p - k = (t.p - (k + 1)) + 1 by omega, List.take_succ_cons]
                have hG := HG.out
                rw [hst2] at hG
                unfold gapOk at hG
                rw [Bool.and_eq_true] at hG
                obtain ⟨hg1, hg2⟩ := hG
                have e10 : (s[k].toNat != 10) = (!(s[k].toNat == 10)) := rfl
                have c10 : (s[k].toNat == 10) = decide ((s[k].toNat : Int) = 10) := by rw [Bool.eq_iff_iff]; simp; omega
                have c35 : (s[k].toNat == 35) = decide ((s[k].toNat : Int) = 35) := by rw [Bool.eq_iff_iff]; simp; omega
                rw [e10, c10, c35] at hg1 hg2
                clear e10 hst2 HG c10 c35
                by_cases n10 : (s[k].toNat : Int) = 10 <;> by_cases n35 : (s[k].toNat : Int) = 35 <;> cases rb
                all_goals
                  first
                    | (exfalso; omega)
                    | skip
                all_goals
                  first | rw [decide_eq_true n10] at hg1 hg2 | rw [decide_eq_false n10] at hg1 hg2
                  first | rw [decide_eq_true n35] at hg1 hg2 | rw [decide_eq_false n35] at hg1 hg2
                  simp only [Bool.not_true, Bool.not_false, Bool.and_true, Bool.and_false, Bool.or_true, Bool.or_false, Bool.true_or, Bool.false_or, Bool.true_and, Bool.false_and] at hg1 hg2
                  have HG2 := hid hg2
                  clear hg2
                  first
                    | (have hB := blank_facts hg1
                       clear hg1
                       rcases hB with q1 | ⟨q1, q2⟩ | ⟨q1, q2, q3⟩ | ⟨q1, q2, q3, q4⟩
                       all_goals
                         first
                           | (exfalso; omega)
                           | (go_wp2_with fail
                              go_round
                              case rel => exact ⟨k + 1, _, by omega, by omega, rfl, by go_num, HG2⟩
                              case measure => simp [intOf]; omega))
                    | (clear hg1
                       go_wp2_with fail
                       go_round
                       case rel => exact ⟨k + 1, _, by omega, by omega, rfl, by go_num, HG2⟩
                       case measure => simp [intOf]; omega)
              · have hke : k = t.p := by omega
                subst hke
                clear HG
                go_wp2_with fail
                go_roundw
                case rel =>
                  refine ⟨t.p + m, i + 1, by have := HN.out; omega, by omega, by go_num, by go_num, fun h => ?_, HBW.out⟩
                  rcases T6.out with h2 | h2
                  · rw [List.drop_eq_nil_iff] at h2; omega
                  · exact h2
                case measure => simp [intOf]; omega
        · have hie : i = N := by omega
          subst hie
          go_wp2_with (go_at_call 7; refine (awake_any _).mono ?_; rintro e w5 ⟨rfl, hb5⟩)
          go_ret
          exact ⟨rfl, below_call (hb1.trans (hbw.mono hb1.size)) hb5 (by have h1 := hb1.size; have h2 := hbw.size; omega)⟩
    · have hx0 : (((lexS (lst s)).2.1 : Int) == 0) = false := by simp; omega
      have HE : Hid ((lexS (lst s)).1 = []) := hid (by
        unfold lexS at hx ⊢
        split
        · rfl
        · rename_i h1
          rw [if_neg h1] at hx
          exact (lex_shape false (lst s) 0).1 hx)
      clear hx
      go_enter Try.func4, Try.ntmps4
      go_wp2_with fail
      refine (lex_any _ s hs2).mono ?_
      rintro e w1 ⟨u, rfl, hO1, hb1⟩
      obtain ⟨ao, cap, rfl, -⟩ := hO1.shape
      rw [HE.out]
      clear hO1
      go_wp2_with (first | (go_at_call 11; refine (num_any _ _).mono ?_; rintro e w4 ⟨rfl, hw4⟩; subst w4) | (go_at_call 7; refine (awake_any _).mono ?_; rintro e w5 ⟨rfl, hb5⟩))
      go_ret
      exact ⟨rfl, below_call hb1 hb5 hb1.size⟩

end Go.Proofs.Ythgghkcmhiomeaa
