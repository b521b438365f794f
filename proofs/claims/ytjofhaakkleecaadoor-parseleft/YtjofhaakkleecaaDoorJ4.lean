/-
  Walks: numbers, signs, first tokens.
-/
import Derived.Test.YtjofhaakkleecaaDoorJ3
namespace Go.Proofs.YtjofhaakkleecaaDoor
open Go.RowKit Lx
set_option linter.unusedSimpArgs false
set_option linter.unusedVariables false
set_option maxRecDepth 100000

theorem run_min2 {P : Program} (w : World) (ts : Array TypeId) (t : TypeId) (x y : Int) : (Builtin.min_ ts t #[.int .i64 x, .int .i64 y]).run P w = .ok (.int .i64 (min x y)) w := by
  have e : ∀ a b : Int, (if b < a then b else a) = min a b := by
    intro a b
    rw [Int.min_def]
    split <;> split <;> omega
  simp [Builtin.min_, Builtin.min2, e]

set_option maxHeartbeats 3200000 in
theorem number_any (w : World) (s : ByteArray) (hs : s.size ≤ 8192) (hp : 0 < s.size) (hd : isD s[0].toNat = true) : Calls Tryd.prog 34 #[.string s] w fun e w' => e = told3 (numberN (lst s)) ∧ w' = w := by
  obtain ⟨n, hn⟩ : ∃ n, n = spanN isD (lst s) := ⟨_, rfl⟩
  have hle : n ≤ s.size := by have := spanN_le isD (lst s); rw [lst_length] at this; rw [hn]; exact this
  have h0 : (lst s).drop 0 = s[0].toNat :: (lst s).drop (0 + 1) := lst_drop s 0 hp
  have hge : 1 ≤ n := by
    rw [hn, ← List.drop_zero (l := lst s), h0]
    simp [spanN, hd]
  have HR : Hid (∀ W : World, Calls Tryd.prog 41 #[.string s, .func (.func 33) #[] #[]] W fun e w' => e = .returned (.int .i64 (n : Nat)) ∧ w' = W) := hid (fun W => by have := run_dig W s hs; rw [← hn] at this; exact this)
  have HW : Hid (numberN (lst s) = if 9 < n then (0, 0, 2) else if (1 < n ∧ (s[0].toNat == 48) = true) ∨ headIs isW ((lst s).drop n) = true then (0, 0, 3) else (2, n, 0)) := hid (by rw [hn]; unfold numberN; rw [headIs_zero _ s hp])
  clear hn h0 hd
  by_cases h9 : 9 < n
  · go_enter Tryd.func34, Tryd.ntmps34
    go_wp2_with (go_at_call 41; refine (HR.out _).mono ?_; rintro e w1 ⟨rfl, rfl⟩)
    go_ret3
    refine ⟨?_, rfl⟩
    rw [HW.out, if_pos h9]
    rfl
  · by_cases h1 : 1 < n ∧ (s[0].toNat == 48) = true
    · have H1 := hid h1
      obtain ⟨h2, h3⟩ := h1
      have h4 : ((s[0].toNat : Int) == 48) = true := by simp at h3 ⊢; omega
      clear h3
      go_enter Tryd.func34, Tryd.ntmps34
      go_wp2_with (go_at_call 41; refine (HR.out _).mono ?_; rintro e w1 ⟨rfl, rfl⟩)
      go_ret3
      refine ⟨?_, rfl⟩
      rw [HW.out, if_neg h9, if_pos (.inl H1.out)]
      rfl
    · have H1 := hid h1
      have H9 := hid h9
      have h4 : ¬ 1 < n ∨ ((s[0].toNat : Int) == 48) = false := by
        by_cases h2 : 1 < n
        · right
          simp at h1 ⊢
          have := h1 h2
          omega
        · exact .inl h2
      clear h1
      by_cases h5 : n < s.size
      · cases h6 : isW s[n].toNat
        all_goals
          have H6 := hid h6
          have H7 := hid (headIs_drop isW s n h5)
          clear h6
          rcases h4 with h4 | h4
          all_goals
            go_enter Tryd.func34, Tryd.ntmps34
            go_wp2_with (first | (go_at_call 41; refine (HR.out _).mono ?_; rintro e w1 ⟨rfl, rfl⟩) | (go_at_call 42; refine (isOfWord_b _ _ _ H6.out).mono ?_; rintro e w1 ⟨rfl, rfl⟩))
            all_goals
              go_ret3
              refine ⟨?_, rfl⟩
              rw [HW.out, if_neg H9.out, H7.out, H6.out]
              first | (rw [if_pos (.inr rfl)]; rfl) | (rw [if_neg (by rintro (h | h); exact H1.out h; simp at h)]; rfl)
      · have H7 := hid (headIs_end isW s n (by omega))
        rcases h4 with h4 | h4
        all_goals
          go_enter Tryd.func34, Tryd.ntmps34
          go_wp2_with (go_at_call 41; refine (HR.out _).mono ?_; rintro e w1 ⟨rfl, rfl⟩)
          all_goals
            go_ret3
            refine ⟨?_, rfl⟩
            rw [HW.out, if_neg H9.out, H7.out]
            rw [if_neg (by rintro (h | h); exact H1.out h; simp at h)]
            rfl

def twosU : List (List UInt8) := [[61, 61], [33, 61], [60, 61], [62, 61], [45, 62]]
theorem twos_u (s : ByteArray) (m : Nat) (hm : (lst s).take m = (lst s).take 2) : ((lst s).take 2 ∈ twos) ↔ ((s.extract 0 m).toList ∈ twosU) := by
  have e : (lst s).take 2 = (s.extract 0 m).toList.map UInt8.toNat := by
    have := lst_extract s 0 m
    rw [List.drop_zero, Nat.sub_zero, hm] at this
    exact this.symm
  rw [e]
  simp only [twos, twosU, List.mem_cons, List.not_mem_nil, or_false]
  simp only [toList_eq_map, List.map_cons, List.map_nil]
  exact Iff.rfl
theorem signN_u (s : ByteArray) (hp : 0 < s.size) (m : Nat) (hm : (lst s).take m = (lst s).take 2) : signN (lst s) = if (s.extract 0 m).toList ∈ twosU then (4, 2, 0) else if s[0].toNat ∈ ones then (4, 1, 0) else (0, 0, 3) := by
  unfold signN
  rw [headIs_zero _ s hp]
  by_cases h : (s.extract 0 m).toList ∈ twosU
  · rw [if_pos h, if_pos ((twos_u s m hm).2 h)]
  · rw [if_neg h, if_neg (fun h' => h ((twos_u s m hm).1 h'))]
    simp

set_option maxHeartbeats 3200000 in
theorem sign_any (w : World) (s : ByteArray) (hs : s.size ≤ 8192) (hp : 0 < s.size) : Calls Tryd.prog 35 #[.string s] w fun e w' => e = told3 (signN (lst s)) ∧ w' = w := by
  obtain ⟨m, hm⟩ : ∃ m, m = min 2 s.size := ⟨_, rfl⟩
  have hmin : min (2 : Int) (s.size : Int) = (m : Int) := by omega
  have hmn : ∀ W : World, (Builtin.min_ #[3, 3] 3 #[.int .i64 2, .int .i64 (s.size : Int)]).run Tryd.prog W = .ok (.int .i64 (m : Int)) W := fun W => by rw [run_min2, hmin]
  have hms : m ≤ s.size := by omega
  have hmt : (lst s).take m = (lst s).take 2 := by
    by_cases h : 2 ≤ s.size
    · have : m = 2 := by omega
      rw [this]
    · rw [List.take_of_length_le (by rw [lst_length]; omega), List.take_of_length_le (by rw [lst_length]; omega)]
  have HS := hid (signN_u s hp m hmt)
  clear hm hmin hmt
  go_enter Tryd.func35, Tryd.ntmps35
  go_wp2
  all_goals
    first | contradiction | skip
    go_ret3
    refine ⟨?_, rfl⟩
    rw [HS.out]
    clear HS hmn
    generalize s[0].toNat = c at *
    generalize (s.extract 0 m).toList = l at *
    simp only [beq_iff_eq, beq_eq_false_iff_ne, ne_eq] at *
    first
      | contradiction
      | (rw [if_pos (by simp [twosU, *])]; rfl)
      | (rw [if_neg (by simp [twosU, *]), if_pos (by simp [ones]; omega)]; rfl)
      | (rw [if_neg (by simp [twosU, *]), if_neg (by simp [ones]; omega)]; rfl)

set_option maxHeartbeats 3200000 in
theorem first_any (w : World) (s : ByteArray) (hs : s.size ≤ 8192) : Calls Tryd.prog 22 #[.string s] w fun e w' => e = told3 (firstN (lst s)) ∧ w' = w := by
  by_cases hp : 0 < s.size
  · have hne : ¬ lst s = [] := by intro e; have := lst_length s; rw [e] at this; simp at this; omega
    have hemp : s.toList.isEmpty = false := by
      rw [List.isEmpty_eq_false_iff]; intro e; apply hne; rw [lst, e]; rfl
    have hF : firstN (lst s) = if isL s[0].toNat = true then wordN (lst s) else if isD s[0].toNat = true then numberN (lst s) else signN (lst s) := by
      unfold firstN
      rw [if_neg hne, headIs_zero _ s hp, headIs_zero _ s hp]
    have hN : isD s[0].toNat = true → Hid (∀ W : World, Calls Tryd.prog 34 #[.string s] W fun e w' => e = told3 (numberN (lst s)) ∧ w' = W) := fun h => hid (fun W => number_any W s hs hp h)
    cases h1 : isL s[0].toNat <;> cases h2 : isD s[0].toNat
    all_goals
      rw [h1, h2] at hF
      simp only [Bool.false_eq_true, if_false, if_true] at hF
      have HF := hid hF
      have H1 := hid h1
      have H2 := hid h2
      have HN := hid hN
      clear hN hF hne h1 h2
      unfold told3 at *
      go_enter Tryd.func22, Tryd.ntmps22
      go_wp2_with (first | (go_at_call 31; refine (isLetter_b _ _ _ H1.out).mono ?_; rintro e w1 ⟨rfl, rfl⟩) | (go_at_call 33; refine (isDigit_b _ _ _ H2.out).mono ?_; rintro e w1 ⟨rfl, rfl⟩) | (go_at_call 32; refine (word_any _ _ hs).mono ?_; rintro e w1 ⟨rfl, rfl⟩; unfold told3) | (go_at_call 34; refine ((HN.out H2.out).out _).mono ?_; rintro e w1 ⟨rfl, rfl⟩) | (go_at_call 35; refine (sign_any _ _ hs hp).mono ?_; rintro e w1 ⟨rfl, rfl⟩; unfold told3))
      go_ret3
      refine ⟨?_, rfl⟩
      rw [HF.out]
      rfl
  · have hnil : lst s = [] := List.eq_nil_of_length_eq_zero (by rw [lst_length]; omega)
    have HF : Hid (firstN (lst s) = (0, 0, 0)) := hid (by rw [hnil]; rfl)
    have hemp : s.toList.isEmpty = true := by
      rw [List.isEmpty_iff]; exact List.eq_nil_of_length_eq_zero (by rw [toList_len]; omega)
    clear hnil
    go_enter Tryd.func22, Tryd.ntmps22
    go_wp2
    go_ret3
    refine ⟨?_, rfl⟩
    rw [HF.out]
    rfl

end Go.Proofs.YtjofhaakkleecaaDoor
