/-
  Walks: gaps, lines, runs of bytes; the kinds of first tokens.
-/
import Derived.Test.YtjofhaakkleecaaDoorJ1
import Derived.Test.YtjofhaakkleecaaDoorShelf
import Derived.Lib.IndexLaws
namespace Go.Proofs.YtjofhaakkleecaaDoor
open Go.RowKit Lx
set_option linter.unusedSimpArgs false
set_option linter.unusedVariables false
set_option maxRecDepth 100000

def lineN (l : List Nat) : Nat := spanN (fun c => c != 10) l
theorem index_line (l : List UInt8) : (Lib.indexByte l 10 < 0 → lineN (l.map UInt8.toNat) = l.length) ∧ (¬ Lib.indexByte l 10 < 0 → Lib.indexByte l 10 = (lineN (l.map UInt8.toNat) : Int)) := by
  induction l with
  | nil => simp [Lib.indexByte, lineN, spanN]
  | cons c r ih =>
    have h1 := Lib.indexByte_ge r 10
    by_cases hc : c = 10
    · subst hc; simp [Lib.indexByte, lineN, spanN]
    · have hn : ¬ c.toNat = 10 := fun e => hc (UInt8.toNat_inj.1 e)
      unfold Lib.indexByte
      unfold lineN at ih ⊢
      simp [hc, spanN, hn]
      by_cases hr : Lib.indexByte r 10 = -1
      · have := ih.1 (by omega)
        simp [hr, this]
      · have := ih.2 (by omega)
        simp [hr]
        omega
theorem line_any (w : World) (s : ByteArray) (hs : s.size ≤ 8192) : Calls Tryd.prog 30 #[.string s] w fun e w' => e = .returned (.int .i64 (lineN (lst s) : Nat)) ∧ w' = w := by
  have h1 := index_line s.data.toList
  have h2 : s.data.toList.map UInt8.toNat = lst s := by rw [lst, ByteArray.toList_eq]
  have h3 : s.data.toList.length = s.size := by rw [Array.length_toList]; rfl
  rw [h2, h3] at h1
  have h4 := Lib.indexByte_ge s.data.toList 10
  have h5 : ((10 : Int).toNat.toUInt8) = 10 := rfl
  have HC : Hid (∀ W : World, Calls Tryd.prog 40 #[.string s, .int .u8 10] W fun e w' => e = .returned (.int .i64 (Lib.indexByte s.data.toList 10)) ∧ w' = W) := hid (fun W => Tryd.strings_IndexByte s 10 W)
  clear h2 h3 h5
  generalize Lib.indexByte s.data.toList 10 = z at *
  by_cases hz : z < 0
  · have H1 := hid (h1.1 hz)
    clear h1
    go_enter Tryd.func30, Tryd.ntmps30
    go_wp2_with (go_at_call 40; refine (HC.out _).mono ?_; rintro e w1 ⟨rfl, rfl⟩)
    go_ret
    exact ⟨ret_int (by rw [H1.out]), rfl⟩
  · have H1 := hid (h1.2 hz)
    clear h1
    go_enter Tryd.func30, Tryd.ntmps30
    go_wp2_with (go_at_call 40; refine (HC.out _).mono ?_; rintro e w1 ⟨rfl, rfl⟩)
    go_ret
    exact ⟨ret_int H1.out, rfl⟩

theorem gap_step {c : Nat} {r : List Nat} (h : isB c = true) : gapN false (c :: r) = gapN false r + 1 := by simp [gapN, h]
set_option maxHeartbeats 1600000 in
theorem gap_any (w : World) (s : ByteArray) (hs : s.size ≤ 8192) : Calls Tryd.prog 21 #[.string s] w fun e w' => e = .returned (.int .i64 (gapN false (lst s) : Nat)) ∧ w' = w := by
  go_enter Tryd.func21, Tryd.ntmps21
  go_wp2
  go_loop [3] (fun n => ∃ k : Nat, k ≤ s.size ∧ n = .int .i64 k ∧ Hid (gapN false (lst s) = k + gapN false ((lst s).drop k))) (fun n => s.size - (intOf n).toNat)
  case atStart => exact ⟨0, Nat.zero_le _, rfl, hid (by simp)⟩
  case round =>
    obtain ⟨k, hk, rfl, HG⟩ := hrel
    by_cases hlt : k < s.size
    · have HD := hid (lst_drop s k hlt)
      have hle : (s.extract k s.size).size ≤ 8192 := by rw [ByteArray.size_extract]; omega
      obtain ⟨m, hm⟩ : ∃ m, m = lineN ((lst s).drop k) := ⟨_, rfl⟩
      have hmk : m ≤ s.size - k := by
        have := spanN_le (fun c => c != 10) ((lst s).drop k)
        rw [List.length_drop, lst_length] at this
        rw [hm]; exact this
      have HC : Hid (∀ W : World, Calls Tryd.prog 30 #[.string (s.extract k s.size)] W fun e w' => e = .returned (.int .i64 (m : Nat)) ∧ w' = W) := hid (fun W => by have := line_any W _ hle; rw [lst_from, ← hm] at this; exact this)
      have HM := hid hm
      clear hm hle
      go_wp2_with (go_at_call 30; refine (HC.out _).mono ?_; rintro e w1 ⟨rfl, rfl⟩)
      all_goals
        clear HC
        generalize s[k].toNat = c at *
        simp only [beq_iff_eq, beq_eq_false_iff_ne, ne_eq] at *
        first
          | (have hB : isB c = true := by (simp [isB]; omega)
             exact ⟨⟨k + 1, by omega, by go_num, hid (by rw [HG.out, HD.out, gap_step hB]; omega)⟩, by simp [intOf]; omega⟩)
          | (have h35 : c = 35 := by omega
             subst h35
             have H1 := gap_hash ((lst s).drop (k + 1))
             rw [← HD.out] at H1
             have H2 : lineN ((lst s).drop k) = lineN ((lst s).drop (k + 1)) + 1 := by rw [HD.out]; rfl
             have H3 := HM.out
             unfold lineN at *
             rw [← H3] at H1 H2
             exact ⟨⟨k + m, by omega, by go_num, hid (by rw [HG.out, H1, List.drop_drop]; omega)⟩, by simp [intOf]; omega⟩)
          | (have hB : isB c = false := by (simp [isB]; omega)
             have h35 : c ≠ 35 := by omega
             go_ret
             exact ⟨ret_int (by rw [HG.out, HD.out]; simp [gapN, hB, h35]), rfl⟩)
    · have HD := hid (drop_end s k (by omega))
      go_wp2
      go_ret
      exact ⟨by rw [HG.out, HD.out]; rfl, rfl⟩

end Go.Proofs.YtjofhaakkleecaaDoor
