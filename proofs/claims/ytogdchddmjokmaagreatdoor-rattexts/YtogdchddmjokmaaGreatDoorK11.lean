/-
  Plain mathematics: the document's way of reading a quotient says the same.
-/
import Derived.Test.YtogdchddmjokmaaGreatDoorK10
namespace Go.Proofs.YtogdchddmjokmaaGreatDoor
open Go.RowKit Lm
set_option linter.unusedSimpArgs false
set_option linter.unusedVariables false
set_option maxRecDepth 100000

theorem ext_list (s : ByteArray) (a b : Nat) : (s.extract a b).data.toList = (s.data.toList.drop a).take (b - a) := by
  simp [ByteArray.data_extract]
/-- No '/' stands in s. -/
theorem no_slash (s : ByteArray) (h : ∀ c ∈ s.data.toList, c ≠ 47) : upS s = s ∧ doS s = ⟨#[49]⟩ := by
  have h1 := idx_none _ h
  unfold upS doS Lib.cut
  rw [h1, if_neg (by omega)]
  exact ⟨rfl, rfl⟩
/-- The first '/' of s stands at j. -/
theorem at_slash (s : ByteArray) (j : Nat) (hj : j < s.data.toList.length) (h1 : s.data.toList[j] = 47) (h : ∀ c ∈ s.data.toList.take j, c ≠ 47) : upS s = s.extract 0 j ∧ doS s = s.extract (j + 1) s.size := by
  have e : s.data.toList = s.data.toList.take j ++ 47 :: s.data.toList.drop (j + 1) := by
    rw [← h1, ← List.drop_eq_getElem_cons hj, List.take_append_drop]
  have hi : Lib.index s.data.toList [47] = (j : Int) := by
    have := idx_mid (s.data.toList.take j) (s.data.toList.drop (j + 1)) h
    rw [← e, List.length_take, Nat.min_eq_left (by omega)] at this
    exact this
  have hl : s.data.toList.length = s.size := data_len s
  unfold upS doS Lib.cut
  rw [hi, if_pos (by omega)]
  simp only [if_true, Int.toNat_natCast, List.length_cons, List.length_nil]
  constructor
  · apply ByteArray.ext
    apply Array.toList_inj.1
    rw [ext_list]
    simp
  · apply ByteArray.ext
    apply Array.toList_inj.1
    rw [ext_list]
    simp only [Nat.zero_add]
    rw [List.take_of_length_le (by simp)]
theorem slash_parts (s : ByteArray) (j : Nat) (hj : j < s.data.toList.length) (h1 : s.data.toList[j] = 47) : s = (s.extract 0 j ++ ⟨#[47]⟩) ++ s.extract (j + 1) s.size := by
  have hl : s.data.toList.length = s.size := data_len s
  have e : s.data.toList = s.data.toList.take j ++ 47 :: s.data.toList.drop (j + 1) := by
    rw [← h1, ← List.drop_eq_getElem_cons hj, List.take_append_drop]
  apply ByteArray.ext
  apply Array.toList_inj.1
  rw [ByteArray.data_append, ByteArray.data_append, Array.toList_append, Array.toList_append, ext_list, ext_list]
  rw [List.take_of_length_le (i := s.size - (j + 1)) (by simp)]
  simp only [List.drop_zero, Nat.sub_zero, List.append_assoc]
  exact e
theorem str_eq (s : ByteArray) (l : List Nat) (h : l = lst s) : str l = s := by
  subst h
  apply ByteArray.ext
  apply Array.toList_inj.1
  rw [← data_lst]
  have e : (UInt8.ofNat ∘ UInt8.toNat) = id := by funext x; simp
  simp [str, e]
/-- What Read tells of a text without '/'. -/
theorem readE_plain (s : ByteArray) (hz : s.size ≤ 10001) (h : ∀ c ∈ s.data.toList, c ≠ 47) : (mayRead (lst s) → readE s = 0 ∧ readQ s = Rat.divInt (readV (lst s)) 1) ∧ (¬ mayRead (lst s) → readE s = 4) := by
  obtain ⟨h1, h2⟩ := no_slash s h
  have hq : readQ s = Rat.divInt (wholeV s) 1 := by
    unfold readQ
    rw [h1, h2, wholeV_one]
  constructor
  · intro hm
    have ht := (may_text s).1 hm
    refine ⟨?_, by rw [hq, may_val s hm]⟩
    unfold readE
    rw [if_neg (by omega), h1, h2, wholeV_one, text_one, lst_one, if_neg (by simp [ht]), if_neg (by omega), if_pos]
    obtain ⟨d1, d2⟩ := divInt_parts (x := wholeV s) (y := 1) (by omega) (by simp)
    unfold textR
    rw [d2, if_pos rfl, d1]
    exact str_eq _ _ ht
  · intro hm
    have ht : ¬ textOf (wholeV s) = lst s := fun h => hm ((may_text s).2 h)
    unfold readE
    rw [if_neg (by omega), h1, h2, if_pos (.inl ht)]
/-- .. of a text with '/'. -/
theorem readE_slash (s : ByteArray) (hz : s.size ≤ 10001) (j : Nat) (hj : j < s.data.toList.length) (h1 : s.data.toList[j] = 47) (h : ∀ c ∈ s.data.toList.take j, c ≠ 47)
    (m1 : mayRead (lst (s.extract 0 j))) (m2 : mayRead (lst (s.extract (j + 1) s.size))) (p q : Int) (hp : readV (lst (s.extract 0 j)) = p) (hq : readV (lst (s.extract (j + 1) s.size)) = q) :
    readE s = (if q = 0 then 11 else if 0 < q ∧ Nat.gcd p.natAbs q.natAbs = 1 ∧ q ≠ 1 then 0 else 4) ∧ readQ s = Rat.divInt p q := by
  obtain ⟨e1, e2⟩ := at_slash s j hj h1 h
  have hup : wholeV (upS s) = p := by rw [e1, ← may_val _ m1, hp]
  have hdo : wholeV (doS s) = q := by rw [e2, ← may_val _ m2, hq]
  have t1 : textOf p = lst (upS s) := by rw [← hup]; rw [e1]; exact (may_text _).1 m1
  have t2 : textOf q = lst (doS s) := by rw [← hdo]; rw [e2]; exact (may_text _).1 m2
  refine ⟨?_, by unfold readQ; rw [hup, hdo]⟩
  unfold readE
  rw [if_neg (by omega), hup, hdo, if_neg (by simp [t1, t2])]
  by_cases hq0 : q = 0
  · rw [if_pos hq0, if_pos hq0]
  · rw [if_neg hq0, if_neg hq0]
    by_cases hf : 0 < q ∧ Nat.gcd p.natAbs q.natAbs = 1 ∧ q ≠ 1
    · rw [if_pos hf, if_pos]
      obtain ⟨f1, f2, f3⟩ := hf
      obtain ⟨d1, d2⟩ := divInt_parts f1 f2
      unfold textR
      rw [d2, if_neg f3, d1]
      have hd3 : ((Rat.divInt p q).den : Int) = q := d2
      rw [str_eq _ _ t1, str_eq _ _ (show textOf q = lst (doS s) from t2), e1, e2]
      exact (slash_parts s j hj h1).symm
    · rw [if_neg hf, if_neg]
      intro ht
      obtain ⟨c1, c2⟩ := cut_text (Rat.divInt p q)
      rw [ht] at c1 c2
      have hn : (Rat.divInt p q).num = p := by
        have h9 := congrArg wholeV c1
        rw [wholeV_text, hup] at h9
        exact h9.symm
      have hdn : ((Rat.divInt p q).den : Int) = q := by
        have h9 := congrArg wholeV c2
        rw [hdo] at h9
        split at h9
        · rename_i ha
          rw [wholeV_one] at h9
          exact ha.trans h9.symm
        · rw [wholeV_text] at h9
          exact h9.symm
      have hpos := (Rat.divInt p q).den_pos
      have hred := (Rat.divInt p q).reduced
      unfold Nat.Coprime at hred
      apply hf
      refine ⟨by omega, ?_, ?_⟩
      · rw [hn] at hred
        rw [← hdn, Int.natAbs_natCast]
        exact hred
      · intro hq1
        have h8 : textR (Rat.divInt p q) = str (textOf p) := by unfold textR; rw [hdn, if_pos hq1, hn]
        rw [ht] at h8
        have h7 := text_slash p 47 (by rw [← h8, ← h1]; exact List.getElem_mem hj)
        exact h7 rfl
end Go.Proofs.YtogdchddmjokmaaGreatDoor
