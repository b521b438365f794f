/-
  Walks: texts of digits.
-/
import Derived.Test.YtkoadlacdgdemaaW10
import Derived.Test.YtkoadlacdgdemaaDec2
namespace Go.Proofs.Ytkoadlacdgdemaa
open Go.RowKit Lm
set_option linter.unusedSimpArgs false
set_option linter.unusedVariables false
set_option maxRecDepth 100000

/-- The bytes of a text. -/
def lst (s : ByteArray) : List Nat := s.toList.map UInt8.toNat
theorem toList_len (s : ByteArray) : s.toList.length = s.size := by rw [ByteArray.toList_eq, Array.length_toList]; rfl
theorem lst_length (s : ByteArray) : (lst s).length = s.size := by rw [lst, List.length_map, toList_len]
theorem toList_get (s : ByteArray) (i : Nat) (h : i < s.size) : s.toList[i]? = some s[i] := by
  rw [ByteArray.toList_eq, Array.getElem?_toList]
  exact Array.getElem?_eq_getElem h
theorem lst_get (s : ByteArray) (i : Nat) (h : i < s.size) : (lst s)[i]? = some s[i].toNat := by
  rw [lst, List.getElem?_map, toList_get s i h]; rfl
theorem lst_getD (s : ByteArray) (i : Nat) (h : i < s.size) : (lst s).getD i 0 = s[i].toNat := by
  rw [List.getD_eq_getElem?_getD, lst_get s i h]; rfl
theorem ext_toList (s : ByteArray) (a b : Nat) : (s.extract a b).toList = (s.toList.drop a).take (b - a) := by
  rw [ByteArray.toList_eq, ByteArray.toList_eq, ByteArray.data_extract, Array.toList_extract, List.extract]
theorem lst_extract (s : ByteArray) (a b : Nat) : lst (s.extract a b) = ((lst s).drop a).take (b - a) := by
  rw [lst, lst, ext_toList, List.map_take, List.map_drop]
theorem map_toNat_inj : ∀ a b : List UInt8, a.map UInt8.toNat = b.map UInt8.toNat → a = b
  | [], [], _ => rfl
  | [], y :: s, h => by simp at h
  | x :: r, [], h => by simp at h
  | x :: r, y :: s, h => by
    rw [List.map_cons, List.map_cons, List.cons.injEq] at h
    rw [UInt8.toNat_inj.1 h.1, map_toNat_inj r s h.2]
theorem lst_inj {s t : ByteArray} (h : lst s = lst t) : s = t := by
  have h1 := map_toNat_inj _ _ h
  rw [ByteArray.toList_eq, ByteArray.toList_eq] at h1
  have h2 : s.data = t.data := Array.toList_inj.1 h1
  cases s; cases t; simp only at h2; rw [h2]
theorem lst_str {l : List Nat} (h : ∀ c ∈ l, c < 256) : lst (str l) = l := by
  unfold lst str
  rw [ByteArray.toList_mk]
  induction l with
  | nil => rfl
  | cons c r ih =>
    have h1 := h c (by simp)
    rw [List.map_cons, List.map_cons, ih (fun x hx => h x (by simp [hx]))]
    rw [UInt8.toNat_ofNat_of_lt' (by simpa using h1)]
theorem lst_nil {s : ByteArray} (h : s.toList = []) : lst s = [] := by rw [lst, h]; rfl

theorem neg_bool (s : ByteArray) : (((s.extract 0 1).toList == [45]) : Bool) = isNeg (lst s) := by
  rw [ext_toList, isNeg, lst]
  cases h : s.toList with
  | nil => rfl
  | cons c r =>
    simp only [List.drop_zero, List.take_succ_cons, Nat.sub_zero, List.take_zero, List.map_cons, List.head?_cons]
    by_cases hc : c = 45
    · subst hc; rfl
    · have h2 : c.toNat ≠ 45 := by
        intro e; apply hc; exact UInt8.toNat_inj.1 e
      rw [show (([c] : List UInt8) == [45]) = false by simpa using hc]
      symm
      simpa using h2

set_option maxHeartbeats 800000 in
theorem hasMinus_any (w : World) (s : ByteArray) (hs : s.size ≤ 9223372036854775807) :
    Calls Try.prog 103 #[.string s, .string ⟨#[45]⟩] w fun e w' => e = .returned (.bool (isNeg (lst s))) ∧ w' = w := by
  go_enter Try.func103, Try.ntmps103
  go_wp2
  · go_ret
    exact ⟨ret_bool (neg_bool s), rfl⟩
  · go_ret
    refine ⟨ret_bool ?_, rfl⟩
    have h0 : s.toList = [] := List.eq_nil_of_length_eq_zero (by rw [toList_len]; omega)
    rw [lst_nil h0]; rfl

/-- What CutPrefix leaves. -/
def cutV (s : ByteArray) : ByteArray := if isNeg (lst s) then s.extract 1 s.size else s
theorem lst_cut (s : ByteArray) : lst (cutV s) = bodyOf (lst s) := by
  unfold cutV bodyOf
  cases h : isNeg (lst s)
  · rfl
  · simp only [if_true]
    rw [lst_extract, List.take_of_length_le (by rw [List.length_drop, lst_length]; omega), List.drop_one]
theorem cut_size (s : ByteArray) : (cutV s).size ≤ s.size := by
  rw [← lst_length, ← lst_length, lst_cut]
  unfold bodyOf
  split
  · rw [List.length_tail]; omega
  · exact Nat.le_refl _

set_option maxHeartbeats 800000 in
theorem cutPrefix0_any (w : World) (s : ByteArray) (hs : s.size ≤ 9223372036854775807) :
    Calls Try.prog 69 #[.string s, .string ⟨#[45]⟩] w fun e w' => e = .returned (.tuple #[.string (cutV s), .bool (isNeg (lst s))]) ∧ w' = w := by
  go_enter Try.func69, Try.ntmps69
  go_wp2_with fail
  refine (hasMinus_any _ s hs).mono ?_
  rintro e w1 ⟨rfl, rfl⟩
  cases hn : isNeg (lst s)
  · go_wp2
    go_ret2
    exact ⟨by rw [cutV, hn]; rfl, rfl⟩
  · have hpos : 1 ≤ s.size := by
      rw [← lst_length]
      cases hx : lst s with
      | nil => rw [hx] at hn; simp [isNeg] at hn
      | cons c r => simp
    go_wp2
    go_ret2
    exact ⟨by rw [cutV, hn]; rfl, rfl⟩
set_option maxHeartbeats 800000 in
theorem cutPrefix_any (w : World) (s : ByteArray) (hs : s.size ≤ 9223372036854775807) :
    Calls Try.prog 36 #[.string s, .string ⟨#[45]⟩] w fun e w' => e = .returned (.tuple #[.string (cutV s), .bool (isNeg (lst s))]) ∧ w' = w := by
  go_enter Try.func36, Try.ntmps36
  go_wp2_with fail
  refine (cutPrefix0_any _ s hs).mono ?_
  rintro e w1 ⟨rfl, rfl⟩
  go_wp2
  go_ret2
  exact ⟨rfl, rfl⟩

theorem dig_of {s : ByteArray} (h : ∀ j (hj : j < s.size), 48 ≤ s[j].toNat ∧ s[j].toNat ≤ 57) : dig (lst s) := by
  intro c hc
  obtain ⟨j, hj, rfl⟩ := List.getElem_of_mem hc
  have h1 : j < s.size := by rwa [lst_length] at hj
  have h2 := lst_get s j h1
  rw [List.getElem?_eq_getElem hj] at h2
  rw [Option.some.inj h2]
  exact h j h1
theorem dig_at {s : ByteArray} (h : dig (lst s)) (j : Nat) (hj : j < s.size) : 48 ≤ s[j].toNat ∧ s[j].toNat ≤ 57 :=
  h _ (List.mem_of_getElem? (lst_get s j hj))
theorem head_at (s : ByteArray) (h : 0 < s.size) : (lst s).head? = some s[0].toNat := by rw [List.head?_eq_getElem?, lst_get s 0 h]

/-- A loop's end: all are digits. -/
def DRel (s : ByteArray) (iv : Value) : Prop := ∃ k : Nat, k ≤ s.size ∧ iv = .int .i64 (k : Int) ∧ ∀ j (hj : j < s.size), j < k → 48 ≤ s[j].toNat ∧ s[j].toNat ≤ 57
def DigPost (s : ByteArray) (w : World) (e : Ending) (w' : World) : Prop := ∃ b : Bool, e = .returned (.bool b) ∧ (b = true ↔ goodD (lst s)) ∧ w' = w

set_option maxHeartbeats 1600000 in
theorem areDigits_any (w : World) (s : ByteArray) (hs : s.size ≤ 9223372036854775807) :
    Calls Try.prog 37 #[.string s] w (DigPost s w) := by
  by_cases h0 : s.toList = []
  · have HF : Hid (DigPost s w (.returned (.bool false)) w) := hid ⟨false, rfl, ⟨fun h => by simp at h, fun h => absurd (lst_nil h0) h.1⟩, rfl⟩
    go_enter Try.func37, Try.ntmps37
    go_wp2
    go_ret
    exact HF.out
  · have hp : 0 < s.size := by
      rw [← toList_len]
      cases hx : s.toList with
      | nil => exact absurd hx h0
      | cons a b => simp
    have he : s.toList.isEmpty = false := by
      cases hx : s.toList with
      | nil => exact absurd hx h0
      | cons a b => rfl
    by_cases hb : s[0].toNat = 48 ∧ 1 < s.size
    · obtain ⟨hb1, hb2⟩ := hb
      have HF : Hid (DigPost s w (.returned (.bool false)) w) := hid ⟨false, rfl, ⟨fun h => by simp at h, fun h => by
        have h1 := h.2.2 (by rw [head_at s hp, hb1])
        rw [lst_length] at h1
        omega⟩, rfl⟩
      have hbi : (s[0].toNat : Int) = 48 := by omega
      go_enter Try.func37, Try.ntmps37
      go_wp2
      go_ret
      exact HF.out
    · have HB := hid hb
      have hcase : s[0].toNat ≠ 48 ∨ s.size = 1 := by omega
      clear hb
      rcases hcase with hc | hc
      · have hci : ¬ (s[0].toNat : Int) = 48 := by omega
        go_enter Try.func37, Try.ntmps37
        go_wp2
        go_loop [18] (fun iv => DRel s iv) (fun iv => s.size - (intOf iv).toNat)
        case atStart => exact ⟨0, Nat.zero_le _, rfl, fun j hj h => absurd h (Nat.not_lt_zero _)⟩
        case round =>
          obtain ⟨k, hk, rfl, hd⟩ := hrel
          have HD := hid hd
          clear hd
          by_cases hlt : k < s.size
          · have hlti : (k : Int) < (s.size : Int) := by omega
            by_cases hx : 48 ≤ s[k].toNat ∧ s[k].toNat ≤ 57
            · obtain ⟨hx1, hx2⟩ := hx
              have hx1i : ¬ (s[k].toNat : Int) < 48 := by omega
              have hx2i : (s[k].toNat : Int) ≤ 57 := by omega
              go_wp2
              go_round
              case rel =>
                refine ⟨k + 1, hlt, by go_num, fun j hj h => ?_⟩
                rcases Nat.lt_or_eq_of_le (Nat.le_of_lt_succ h) with h1 | h1
                · exact HD.out j hj h1
                · subst h1; exact ⟨hx1, hx2⟩
              case measure => simp [intOf]; omega
            · have HF : Hid (DigPost s w (.returned (.bool false)) w) := hid ⟨false, rfl, ⟨fun h => by simp at h, fun h => absurd (dig_at h.2.1 k hlt) hx⟩, rfl⟩
              have hy : (s[k].toNat : Int) < 48 ∨ 57 < (s[k].toNat : Int) := by omega
              rcases hy with hy | hy
              · go_wp2
                go_ret
                exact HF.out
              · have hy2 : ¬ (s[k].toNat : Int) < 48 := by omega
                go_wp2
                go_ret
                exact HF.out
          · have hke : k = s.size := by omega
            subst hke
            have HF : Hid (DigPost s w (.returned (.bool true)) w) := hid ⟨true, rfl, ⟨fun _ => ⟨fun h => by have := lst_length s; rw [h] at this; simp at this; omega, dig_of (fun j hj => HD.out j hj hj), fun h => by
              rw [head_at s hp] at h
              have h1 : s[0].toNat = 48 := Option.some.inj h
              have := HB.out
              rw [lst_length]
              omega⟩, fun _ => rfl⟩, rfl⟩
            go_wp2
            go_ret
            exact HF.out
      · have hc2 : ¬ (1 : Int) < (s.size : Int) := by omega
        have HC := hid hc
        by_cases hz : s[0].toNat = 48
        · have hzi : (s[0].toNat : Int) = 48 := by omega
          clear hc
          go_enter Try.func37, Try.ntmps37
          go_wp2
          go_loop [18] (fun iv => DRel s iv) (fun iv => s.size - (intOf iv).toNat)
          case atStart => exact ⟨0, Nat.zero_le _, rfl, fun j hj h => absurd h (Nat.not_lt_zero _)⟩
          case round =>
            obtain ⟨k, hk, rfl, hd⟩ := hrel
            have HD := hid hd
            clear hd
            by_cases hlt : k < s.size
            · have hlti : (k : Int) < (s.size : Int) := by omega
              by_cases hx : 48 ≤ s[k].toNat ∧ s[k].toNat ≤ 57
              · obtain ⟨hx1, hx2⟩ := hx
                have hx1i : ¬ (s[k].toNat : Int) < 48 := by omega
                have hx2i : (s[k].toNat : Int) ≤ 57 := by omega
                go_wp2
                go_round
                case rel =>
                  refine ⟨k + 1, hlt, by go_num, fun j hj h => ?_⟩
                  rcases Nat.lt_or_eq_of_le (Nat.le_of_lt_succ h) with h1 | h1
                  · exact HD.out j hj h1
                  · subst h1; exact ⟨hx1, hx2⟩
                case measure => simp [intOf]; omega
              · have HF : Hid (DigPost s w (.returned (.bool false)) w) := hid ⟨false, rfl, ⟨fun h => by simp at h, fun h => absurd (dig_at h.2.1 k hlt) hx⟩, rfl⟩
                have hy : (s[k].toNat : Int) < 48 ∨ 57 < (s[k].toNat : Int) := by omega
                rcases hy with hy | hy
                · go_wp2
                  go_ret
                  exact HF.out
                · have hy2 : ¬ (s[k].toNat : Int) < 48 := by omega
                  go_wp2
                  go_ret
                  exact HF.out
            · have hke : k = s.size := by omega
              subst hke
              have HF : Hid (DigPost s w (.returned (.bool true)) w) := hid ⟨true, rfl, ⟨fun _ => ⟨fun h => by have := lst_length s; rw [h] at this; simp at this; omega, dig_of (fun j hj => HD.out j hj hj), fun h => by
                rw [head_at s hp] at h
                have h1 : s[0].toNat = 48 := Option.some.inj h
                have := HB.out
                rw [lst_length]
                omega⟩, fun _ => rfl⟩, rfl⟩
              go_wp2
              go_ret
              exact HF.out
        · have hzi : ¬ (s[0].toNat : Int) = 48 := by omega
          clear hc
          go_enter Try.func37, Try.ntmps37
          go_wp2
          go_loop [18] (fun iv => DRel s iv) (fun iv => s.size - (intOf iv).toNat)
          case atStart => exact ⟨0, Nat.zero_le _, rfl, fun j hj h => absurd h (Nat.not_lt_zero _)⟩
          case round =>
            obtain ⟨k, hk, rfl, hd⟩ := hrel
            have HD := hid hd
            clear hd
            by_cases hlt : k < s.size
            · have hlti : (k : Int) < (s.size : Int) := by omega
              by_cases hx : 48 ≤ s[k].toNat ∧ s[k].toNat ≤ 57
              · obtain ⟨hx1, hx2⟩ := hx
                have hx1i : ¬ (s[k].toNat : Int) < 48 := by omega
                have hx2i : (s[k].toNat : Int) ≤ 57 := by omega
                go_wp2
                go_round
                case rel =>
                  refine ⟨k + 1, hlt, by go_num, fun j hj h => ?_⟩
                  rcases Nat.lt_or_eq_of_le (Nat.le_of_lt_succ h) with h1 | h1
                  · exact HD.out j hj h1
                  · subst h1; exact ⟨hx1, hx2⟩
                case measure => simp [intOf]; omega
              · have HF : Hid (DigPost s w (.returned (.bool false)) w) := hid ⟨false, rfl, ⟨fun h => by simp at h, fun h => absurd (dig_at h.2.1 k hlt) hx⟩, rfl⟩
                have hy : (s[k].toNat : Int) < 48 ∨ 57 < (s[k].toNat : Int) := by omega
                rcases hy with hy | hy
                · go_wp2
                  go_ret
                  exact HF.out
                · have hy2 : ¬ (s[k].toNat : Int) < 48 := by omega
                  go_wp2
                  go_ret
                  exact HF.out
            · have hke : k = s.size := by omega
              subst hke
              have HF : Hid (DigPost s w (.returned (.bool true)) w) := hid ⟨true, rfl, ⟨fun _ => ⟨fun h => by have := lst_length s; rw [h] at this; simp at this; omega, dig_of (fun j hj => HD.out j hj hj), fun h => by
                rw [head_at s hp] at h
                have h1 : s[0].toNat = 48 := Option.some.inj h
                have := HB.out
                rw [lst_length]
                omega⟩, fun _ => rfl⟩, rfl⟩
              go_wp2
              go_ret
              exact HF.out

end Go.Proofs.Ytkoadlacdgdemaa
