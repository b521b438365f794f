/-
  Walks: texts of digits.
-/
import Derived.Test.YtalblhcfkfockaaW10
import Derived.Test.YtalblhcfkfockaaDec2
namespace Go.Proofs.Ytalblhcfkfockaa
open Go.RowKit Lm
set_option linter.unusedSimpArgs false
set_option linter.unusedVariables false
set_option maxRecDepth 100000

/-- The bytes of a text. -/
def lst (s : ByteArray) : List Nat := s.toList.map UInt8.toNat
theorem toList_len (s : ByteArray) : s.toList.length = s.size := by rw [ByteArray.toList_eq, Array.length_toList]; rfl
theorem lst_length (s : ByteArray) : (lst s).length = s.size := by rw [lst, List.length_map, toList_len]
theorem toList_get (s : ByteArray) (i : Nat) (h : i < s.size) : s.toList[i]? = some s[i] := by
  rw [ByteArray.toList_eq, Array.getElem?_toList]
  exact Array.getElem?_eq_getElem h
theorem lst_get (s : ByteArray) (i : Nat) (h : i < s.size) : (lst s)[i]? = some s[i].toNat := by
  rw [lst, List.getElem?_map, toList_get s i h]; rfl
theorem lst_getD (s : ByteArray) (i : Nat) (h : i < s.size) : (lst s).getD i 0 = s[i].toNat := by
  rw [List.getD_eq_getElem?_getD, lst_get s i h]; rfl
theorem ext_toList (s : ByteArray) (a b : Nat) : (s.extract a b).toList = (s.toList.drop a).take (b - a) := by
  rw [ByteArray.toList_eq, ByteArray.toList_eq, ByteArray.data_extract, Array.toList_extract, List.extract]
theorem lst_extract (s : ByteArray) (a b : Nat) : lst (s.extract a b) = ((lst s).drop a).take (b - a) := by
  rw [lst, lst, ext_toList, List.map_take, List.map_drop]
theorem map_toNat_inj : ∀ a b : List UInt8, a.map UInt8.toNat = b.map UInt8.toNat → a = b
  | [], [], _ => rfl
  | [], y :: s, h => by simp at h
  | x :: r, [], h => by simp at h
  | x :: r, y :: s, h => by
    rw [List.map_cons, List.map_cons, List.cons.injEq] at h
    rw [UInt8.toNat_inj.1 h.1, map_toNat_inj r s h.2]
theorem lst_inj {s t : ByteArray} (h : lst s = lst t) : s = t := by
  have h1 := map_toNat_inj _ _ h
  rw [ByteArray.toList_eq, ByteArray.toList_eq] at h1
  have h2 : s.data = t.data := Array.toList_inj.1 h1
  cases s; cases t; simp only at h2; rw [h2]
theorem lst_str {l : List Nat} (h : ∀ c ∈ l, c < 256) : lst (str l) = l := by
  unfold lst str
  rw [ByteArray.toList_mk]
  induction l with
  | nil => rfl
  | cons c r ih =>
    have h1 := h c (by simp)
    rw [List.map_cons, List.map_cons, ih (fun x hx => h x (by simp [hx]))]
    rw [UInt8.toNat_ofNat_of_lt' (by simpa using h1)]
theorem lst_nil {s : ByteArray} (h : s.toList = []) : lst s = [] := by rw [lst, h]; rfl

theorem neg_bool (s : ByteArray) : (((s.extract 0 1).toList == [45]) : Bool) = isNeg (lst s) := by
  rw [ext_toList, isNeg, lst]
  cases h : s.toList with
  | nil => rfl
  | cons c r =>
    simp only [List.drop_zero, List.take_succ_cons, Nat.sub_zero, List.take_zero, List.map_cons, List.head?_cons]
    by_cases hc : c = 45
    · subst hc; rfl
    · have h2 : c.toNat ≠ 45 := by
        intro e; apply hc; exact UInt8.toNat_inj.1 e
      rw [show (([c] : List UInt8) == [45]) = false by simpa using hc]
      symm
      simpa using h2

/-- What CutPrefix leaves. -/
def cutV (s : ByteArray) : ByteArray := if isNeg (lst s) then s.extract 1 s.size else s
theorem lst_cut (s : ByteArray) : lst (cutV s) = bodyOf (lst s) := by
  unfold cutV bodyOf
  cases h : isNeg (lst s)
  · rfl
  · simp only [if_true]
    rw [lst_extract, List.take_of_length_le (by rw [List.length_drop, lst_length]; omega), List.drop_one]
theorem cut_size (s : ByteArray) : (cutV s).size ≤ s.size := by
  rw [← lst_length, ← lst_length, lst_cut]
  unfold bodyOf
  split
  · rw [List.length_tail]; omega
  · exact Nat.le_refl _

theorem dig_of {s : ByteArray} (h : ∀ j (hj : j < s.size), 48 ≤ s[j].toNat ∧ s[j].toNat ≤ 57) : dig (lst s) := by
  intro c hc
  obtain ⟨j, hj, rfl⟩ := List.getElem_of_mem hc
  have h1 : j < s.size := by rwa [lst_length] at hj
  have h2 := lst_get s j h1
  rw [List.getElem?_eq_getElem hj] at h2
  rw [Option.some.inj h2]
  exact h j h1
theorem dig_at {s : ByteArray} (h : dig (lst s)) (j : Nat) (hj : j < s.size) : 48 ≤ s[j].toNat ∧ s[j].toNat ≤ 57 :=
  h _ (List.mem_of_getElem? (lst_get s j hj))
theorem head_at (s : ByteArray) (h : 0 < s.size) : (lst s).head? = some s[0].toNat := by rw [List.head?_eq_getElem?, lst_get s 0 h]

/-- A loop's end: all are digits. -/
def DRel (s : ByteArray) (iv : Value) : Prop := ∃ k : Nat, k ≤ s.size ∧ iv = .int .i64 (k : Int) ∧ ∀ j (hj : j < s.size), j < k → 48 ≤ s[j].toNat ∧ s[j].toNat ≤ 57
def DigPost (s : ByteArray) (w : World) (e : Ending) (w' : World) : Prop := ∃ b : Bool, e = .returned (.bool b) ∧ (b = true ↔ goodD (lst s)) ∧ w' = w

end Go.Proofs.Ytalblhcfkfockaa
