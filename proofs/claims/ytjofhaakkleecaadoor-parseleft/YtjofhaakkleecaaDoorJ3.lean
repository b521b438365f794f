/-
  Walks: runs of bytes of a kind; words, numbers.
-/
import Derived.Test.YtjofhaakkleecaaDoorJ2
namespace Go.Proofs.YtjofhaakkleecaaDoor
open Go.RowKit Lx
set_option linter.unusedSimpArgs false
set_option linter.unusedVariables false
set_option maxRecDepth 100000

theorem isOfWord_b (w : World) (c : Nat) (b : Bool) (h : isW c = b) : Calls Tryd.prog 42 #[.int .u8 (c : Int)] w fun e w' => e = .returned (.bool b) ∧ w' = w := by subst h; exact isOfWord_any w c
set_option maxHeartbeats 1600000 in
theorem run_word (w : World) (s : ByteArray) (hs : s.size ≤ 8192) : Calls Tryd.prog 41 #[.string s, .func (.func 42) #[] #[]] w fun e w' => e = .returned (.int .i64 (spanN isW (lst s) : Nat)) ∧ w' = w := by
  go_enter Tryd.func41, Tryd.ntmps41
  go_wp2
  go_loop [8] (fun n => ∃ k : Nat, k ≤ s.size ∧ n = .int .i64 k ∧ Hid (spanN isW (lst s) = k + spanN isW ((lst s).drop k))) (fun n => s.size - (intOf n).toNat)
  case atStart => exact ⟨0, Nat.zero_le _, rfl, hid (by simp)⟩
  case round =>
    obtain ⟨k, hk, rfl, HG⟩ := hrel
    by_cases hlt : k < s.size
    · have HD := hid (lst_drop s k hlt)
      cases hb : isW s[k].toNat
      all_goals
        have HB := hid hb
        clear hb
        go_wp2_with (go_at_call 42; refine (isOfWord_b _ _ _ HB.out).mono ?_; rintro e w1 ⟨rfl, rfl⟩)
        first
          | (go_ret
             exact ⟨ret_int (by rw [HG.out, HD.out]; simp [spanN, HB.out]), rfl⟩)
          | exact ⟨⟨k + 1, by omega, by go_num, hid (by rw [HG.out, HD.out]; simp [spanN, HB.out]; omega)⟩, by simp [intOf]; omega⟩
    · have HD := hid (drop_end s k (by omega))
      have e : k = s.size := by omega
      subst e
      go_wp2
      go_ret
      exact ⟨ret_int (by rw [HG.out, HD.out]; simp [spanN]), rfl⟩

set_option maxHeartbeats 1600000 in
theorem run_dig (w : World) (s : ByteArray) (hs : s.size ≤ 8192) : Calls Tryd.prog 41 #[.string s, .func (.func 33) #[] #[]] w fun e w' => e = .returned (.int .i64 (spanN isD (lst s) : Nat)) ∧ w' = w := by
  go_enter Tryd.func41, Tryd.ntmps41
  go_wp2
  go_loop [8] (fun n => ∃ k : Nat, k ≤ s.size ∧ n = .int .i64 k ∧ Hid (spanN isD (lst s) = k + spanN isD ((lst s).drop k))) (fun n => s.size - (intOf n).toNat)
  case atStart => exact ⟨0, Nat.zero_le _, rfl, hid (by simp)⟩
  case round =>
    obtain ⟨k, hk, rfl, HG⟩ := hrel
    by_cases hlt : k < s.size
    · have HD := hid (lst_drop s k hlt)
      cases hb : isD s[k].toNat
      all_goals
        have HB := hid hb
        clear hb
        go_wp2_with (go_at_call 33; refine (isDigit_b _ _ _ HB.out).mono ?_; rintro e w1 ⟨rfl, rfl⟩)
        first
          | (go_ret
             exact ⟨ret_int (by rw [HG.out, HD.out]; simp [spanN, HB.out]), rfl⟩)
          | exact ⟨⟨k + 1, by omega, by go_num, hid (by rw [HG.out, HD.out]; simp [spanN, HB.out]; omega)⟩, by simp [intOf]; omega⟩
    · have HD := hid (drop_end s k (by omega))
      have e : k = s.size := by omega
      subst e
      go_wp2
      go_ret
      exact ⟨ret_int (by rw [HG.out, HD.out]; simp [spanN]), rfl⟩


/-- Three whole numbers that are told. -/
def told3 (a : Nat × Nat × Nat) : Ending := .returned (.tuple #[.int .i64 (a.1 : Int), .int .i64 (a.2.1 : Int), .int .i64 (a.2.2 : Int)])

theorem key_b (w : World) (s : ByteArray) (n : Nat) (b : Bool) (h : isKey ((lst s).take n) = b) : Calls Tryd.prog 43 #[.string (s.extract 0 n)] w fun e w' => e = .returned (.bool b) ∧ w' = w := by
  have := key_any w (s.extract 0 n)
  rw [lst_extract, List.drop_zero, Nat.sub_zero, h] at this
  exact this
set_option maxHeartbeats 1600000 in
theorem word_any (w : World) (s : ByteArray) (hs : s.size ≤ 8192) : Calls Tryd.prog 32 #[.string s] w fun e w' => e = told3 (wordN (lst s)) ∧ w' = w := by
  obtain ⟨n, hn⟩ : ∃ n, n = spanN isW (lst s) := ⟨_, rfl⟩
  have hle : n ≤ s.size := by have := spanN_le isW (lst s); rw [lst_length] at this; rw [hn]; exact this
  have HR : Hid (∀ W : World, Calls Tryd.prog 41 #[.string s, .func (.func 42) #[] #[]] W fun e w' => e = .returned (.int .i64 (n : Nat)) ∧ w' = W) := hid (fun W => by have := run_word W s hs; rw [← hn] at this; exact this)
  have HW : Hid (wordN (lst s) = if isKey ((lst s).take n) = true then (3, n, 0) else if 16 < n then (0, 0, 2) else (1, n, 0)) := hid (by rw [hn]; rfl)
  clear hn
  cases hb : isKey ((lst s).take n)
  all_goals
    have HB := hid hb
    clear hb
    go_enter Tryd.func32, Tryd.ntmps32
    go_wp2_with (first | (go_at_call 41; refine (HR.out _).mono ?_; rintro e w1 ⟨rfl, rfl⟩) | (go_at_call 43; refine (key_b _ _ _ _ HB.out).mono ?_; rintro e w1 ⟨rfl, rfl⟩))
    all_goals
      go_ret3
      refine ⟨?_, rfl⟩
      rw [HW.out, HB.out]
      first | rfl | (rw [if_neg (by simp), if_pos (by omega)]; rfl) | (rw [if_neg (by simp), if_neg (by omega)]; rfl)

theorem headIs_drop (p : Nat → Bool) (s : ByteArray) (n : Nat) (h : n < s.size) : headIs p ((lst s).drop n) = p s[n].toNat := by rw [lst_drop s n h]; rfl
theorem headIs_end (p : Nat → Bool) (s : ByteArray) (n : Nat) (h : s.size ≤ n) : headIs p ((lst s).drop n) = false := by rw [drop_end s n h]; rfl
theorem headIs_zero (p : Nat → Bool) (s : ByteArray) (h : 0 < s.size) : headIs p (lst s) = p s[0].toNat := by have := headIs_drop p s 0 h; simpa using this

end Go.Proofs.YtjofhaakkleecaaDoor
