/-
  Walks: the document's own signs; what the rounds of its Lex want of texts.
-/
import Derived.Test.YthgghkcmhiomeaaJ8
namespace Go.Proofs.Ythgghkcmhiomeaa
open Go.RowKit Lx
set_option linter.unusedSimpArgs false
set_option linter.unusedVariables false
set_option maxRecDepth 100000

theorem ext_empty (s : ByteArray) (i : Nat) : s.extract i i = ⟨#[]⟩ := by
  apply lst_inj
  rw [lst_extract]
  simp [lst, ByteArray.toList_mk]
theorem rKey_b (w : World) (s : ByteArray) (i k : Nat) (b : Bool) (h : isKey (((lst s).drop i).take (k - i)) = b) : Calls Try.prog 15 #[.string (s.extract i k)] w fun e w' => e = .returned (.bool b) ∧ w' = w := by
  have := rKey_any w (s.extract i k)
  rw [lst_extract, h] at this
  exact this
theorem key_len {l : List Nat} (h : isKey l = true) : l.length ≤ 6 := by
  unfold isKey at h
  simp only [keys, List.mem_cons, List.not_mem_nil, or_false, decide_eq_true_eq] at h
  rcases h with rfl | rfl | rfl | rfl | rfl | rfl | rfl | rfl | rfl | rfl | rfl | rfl | rfl | rfl | rfl <;> decide

theorem twos_at (s : ByteArray) (i : Nat) : (((lst s).drop i).take 2 ∈ twos) ↔ ((s.extract i (i + 2)).toList ∈ twosU) := by
  have e : ((lst s).drop i).take 2 = (s.extract i (i + 2)).toList.map UInt8.toNat := by
    have := lst_extract s i (i + 2)
    rw [show i + 2 - i = 2 by omega] at this
    exact this.symm
  rw [e]
  simp only [twos, twosU, List.mem_cons, List.not_mem_nil, or_false]
  simp only [toList_eq_map, List.map_cons, List.map_nil]
  exact Iff.rfl
theorem signN_at (s : ByteArray) (i : Nat) (hi : i < s.size) : (signN ((lst s).drop i)).2.1 = if (s.extract i (i + 2)).toList ∈ twosU then 2 else if s[i].toNat ∈ ones then 1 else 0 := by
  unfold signN
  rw [headIs_drop _ s i hi]
  by_cases h : (s.extract i (i + 2)).toList ∈ twosU
  · rw [if_pos h, if_pos ((twos_at s i).2 h)]
  · rw [if_neg h, if_neg (fun h' => h ((twos_at s i).1 h'))]
    by_cases h2 : s[i].toNat ∈ ones <;> simp [h2]
theorem ret_str {a b : ByteArray} (h : a = b) : Ending.returned (.string a) = .returned (.string b) := by rw [h]

set_option maxHeartbeats 3200000 in
theorem rsign_any (w : World) (s : ByteArray) (i n : Nat) (hs : s.size ≤ 8192) (hi : i < s.size) (hn : n = (signN ((lst s).drop i)).2.1) :
    Calls Try.prog 16 #[.string s, .int .i64 (i : Int)] w fun e w' => e = .returned (.string (s.extract i (i + n))) ∧ w' = w := by
  have HS : Hid (n = if (s.extract i (i + 2)).toList ∈ twosU then 2 else if s[i].toNat ∈ ones then 1 else 0) := hid (by rw [hn, signN_at s i hi])
  clear hn
  by_cases h2 : i + 1 < s.size
  · have h2i : (i : Int) + 1 < (s.size : Int) := by omega
    go_enter Try.func16, Try.ntmps16
    go_wp2
    all_goals
      first | contradiction | skip
      go_ret
      refine ⟨ret_str ?_, rfl⟩
      rw [HS.out]
      clear HS
      have hem := ext_empty s i
      generalize s[i].toNat = c at *
      generalize hl : (s.extract i (i + 2)).toList = l at *
      simp only [beq_iff_eq, beq_eq_false_iff_ne, ne_eq] at *
      first
        | contradiction
        | (by_cases hm : l ∈ twosU
           · rw [if_pos hm]
             first | done | (exfalso; simp [twosU, *] at hm; done)
           · rw [if_neg hm]
             by_cases ho : c ∈ ones
             · rw [if_pos ho]
               first | done | (exfalso; simp [ones] at ho; omega) | (exfalso; apply hm; simp [twosU, *]; done)
             · rw [if_neg ho]
               first | exact hem.symm | (exfalso; simp [ones] at ho; omega) | (exfalso; apply hm; simp [twosU, *]; done))
  · have h2i : ¬ (i : Int) + 1 < (s.size : Int) := by omega
    have hnt : ¬ (s.extract i (i + 2)).toList ∈ twosU := by
      intro h
      have h3 : (s.extract i (i + 2)).toList.length = 2 := by
        simp only [twosU, List.mem_cons, List.not_mem_nil, or_false] at h
        rcases h with h | h | h | h | h <;> rw [h] <;> rfl
      rw [toList_len, ByteArray.size_extract] at h3
      omega
    have HS2 : Hid (n = if s[i].toNat ∈ ones then 1 else 0) := hid (by rw [HS.out, if_neg hnt])
    clear HS hnt
    go_enter Try.func16, Try.ntmps16
    go_wp2
    all_goals
      first | contradiction | skip
      go_ret
      refine ⟨ret_str ?_, rfl⟩
      rw [HS2.out]
      clear HS2
      have hem := ext_empty s i
      generalize s[i].toNat = c at *
      simp only [beq_iff_eq, beq_eq_false_iff_ne, ne_eq] at *
      first
        | contradiction
        | (by_cases ho : c ∈ ones
           · rw [if_pos ho]
             first | done | (exfalso; simp [ones] at ho; omega)
           · rw [if_neg ho]
             first | exact hem.symm | (exfalso; simp [ones] at ho; omega))

/-- A token that stands at a place. -/
theorem lex_at {s : ByteArray} {i k n : Nat} (hi : i < s.size) (h1 : isB s[i].toNat = false) (h2 : s[i].toNat ≠ 35) (ha : firstN ((lst s).drop i) = (k, n, 0)) (hn : n ≠ 0) :
    lexN false ((lst s).drop i) i = comb [⟨k, ((lst s).drop i).take n, i⟩] (lexN false ((lst s).drop (i + n)) (i + n)) := by
  have e : (lst s).drop (i + n) = ((lst s).drop i).drop n := by rw [List.drop_drop]
  rw [e]
  rw [lst_drop s i hi] at ha ⊢
  exact lex_one h1 h2 ha hn
theorem lex_at_err {s : ByteArray} {i k n x : Nat} (hi : i < s.size) (h1 : isB s[i].toNat = false) (h2 : s[i].toNat ≠ 35) (ha : firstN ((lst s).drop i) = (k, n, x)) (hx : x ≠ 0) :
    lexN false ((lst s).drop i) i = ([], x, i) := by
  rw [lst_drop s i hi] at ha ⊢
  exact lex_err h1 h2 ha hx
theorem first_word {s : ByteArray} {i : Nat} (hi : i < s.size) (h : isL s[i].toNat = true) : firstN ((lst s).drop i) = wordN ((lst s).drop i) := by
  have e := headIs_drop isL s i hi
  rw [h] at e
  unfold firstN
  rw [if_neg (by rw [List.drop_eq_nil_iff, lst_length]; omega), if_pos e]
theorem first_number {s : ByteArray} {i : Nat} (hi : i < s.size) (h : isL s[i].toNat = false) (h2 : isD s[i].toNat = true) : firstN ((lst s).drop i) = numberN ((lst s).drop i) := by
  have e := headIs_drop isL s i hi
  have e2 := headIs_drop isD s i hi
  rw [h] at e
  rw [h2] at e2
  unfold firstN
  rw [if_neg (by rw [List.drop_eq_nil_iff, lst_length]; omega), if_neg (by rw [e]; simp), if_pos e2]
theorem first_sign {s : ByteArray} {i : Nat} (hi : i < s.size) (h : isL s[i].toNat = false) (h2 : isD s[i].toNat = false) : firstN ((lst s).drop i) = signN ((lst s).drop i) := by
  have e := headIs_drop isL s i hi
  have e2 := headIs_drop isD s i hi
  rw [h] at e
  rw [h2] at e2
  unfold firstN
  rw [if_neg (by rw [List.drop_eq_nil_iff, lst_length]; omega), if_neg (by rw [e]; simp), if_neg (by rw [e2]; simp)]
theorem isL_no {c : Nat} (h : isL c = true) : isB c = false ∧ c ≠ 35 ∧ isD c = false := by simp [isL, isB, isD] at *; omega
theorem isD_no {c : Nat} (h : isD c = true) : isB c = false ∧ c ≠ 35 := by simp [isL, isB, isD] at *; omega
theorem isB_no {c : Nat} (h : isB c = false) : ((c : Int) == 32) = false ∧ ((c : Int) == 9) = false ∧ ((c : Int) == 10) = false ∧ ((c : Int) == 13) = false := by simp [isB] at *; omega
theorem isB_yes {c : Nat} (h : isB c = true) : c = 32 ∨ c = 9 ∨ c = 10 ∨ c = 13 := by simp [isB] at h; omega
/-- One byte more of a run. -/
theorem span_more {p : Nat → Bool} {s : ByteArray} {i k : Nat} (hk : k < s.size) (hp : p s[k].toNat = true) (h : spanN p ((lst s).drop i) + i = k + spanN p ((lst s).drop k)) : spanN p ((lst s).drop i) + i = (k + 1) + spanN p ((lst s).drop (k + 1)) := by
  rw [lst_drop s k hk] at h
  simp only [spanN, hp, if_true] at h
  omega
theorem span_stop {p : Nat → Bool} {s : ByteArray} {i k : Nat} (hk : k < s.size) (hp : p s[k].toNat = false) (h : spanN p ((lst s).drop i) + i = k + spanN p ((lst s).drop k)) : spanN p ((lst s).drop i) + i = k := by
  rw [lst_drop s k hk] at h
  simp [spanN, hp] at h
  exact h
theorem span_end {p : Nat → Bool} {s : ByteArray} {i k : Nat} (hk : s.size ≤ k) (h : spanN p ((lst s).drop i) + i = k + spanN p ((lst s).drop k)) : spanN p ((lst s).drop i) + i = k := by
  rw [drop_end s k hk] at h
  simpa [spanN] using h

end Go.Proofs.Ythgghkcmhiomeaa
