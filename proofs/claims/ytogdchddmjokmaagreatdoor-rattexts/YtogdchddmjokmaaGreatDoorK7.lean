/-
  Plain mathematics: the digits of a quotient are read as it.
-/
import Derived.Test.YtogdchddmjokmaaGreatDoorK6
namespace Go.Proofs.YtogdchddmjokmaaGreatDoor
open Go.RowKit Lm
set_option linter.unusedSimpArgs false
set_option linter.unusedVariables false
set_option maxRecDepth 100000

theorem idx_mid (l r : List UInt8) (h : ∀ c ∈ l, c ≠ 47) : Lib.index (l ++ 47 :: r) [47] = (l.length : Int) := by
  induction l with
  | nil => simp [Lib.index, List.isPrefixOf]
  | cons b l ih =>
    have hb : b ≠ 47 := h b (by simp)
    have h1 := ih (fun c hc => h c (by simp [hc]))
    have h0 : ([47] : List UInt8).isPrefixOf (b :: (l ++ 47 :: r)) = false := by
      simp [List.isPrefixOf]
      exact fun e => hb e.symm
    rw [List.cons_append]
    unfold Lib.index
    rw [h0, h1]
    have h2 : ((l.length : Int) == -1) = false := by rw [beq_eq_false_iff_ne]; omega
    simp [h2]
theorem idx_none (l : List UInt8) (h : ∀ c ∈ l, c ≠ 47) : Lib.index l [47] = -1 := by
  induction l with
  | nil => rfl
  | cons b l ih =>
    have hb : b ≠ 47 := h b (by simp)
    have h1 := ih (fun c hc => h c (by simp [hc]))
    have h0 : ([47] : List UInt8).isPrefixOf (b :: l) = false := by
      simp [List.isPrefixOf]
      exact fun e => hb e.symm
    unfold Lib.index
    rw [h0, h1]
    rfl
theorem text_slash (z : Int) : ∀ c ∈ (str (textOf z)).data.toList, c ≠ 47 := by
  intro c hc e
  subst e
  have h1 : (47 : Nat) ∈ lst (str (textOf z)) := by
    rw [← data_lst]
    exact List.mem_map.2 ⟨47, hc, rfl⟩
  rw [lst_text] at h1
  unfold textOf at h1
  split at h1
  · simp at h1
  · rw [List.mem_append] at h1
    rcases h1 with h | h
    · split at h <;> simp at h
    · have := decs_dig z.natAbs 47 (by simpa using h)
      omega
theorem lst_one : lst ⟨#[49]⟩ = [49] := by rw [← data_lst]; rfl
theorem text_one : textOf 1 = [49] := by decide
theorem wholeV_text (z : Int) : wholeV (str (textOf z)) = z := wholeV_of _ z (lst_text z).symm
theorem wholeV_one : wholeV ⟨#[49]⟩ = 1 := wholeV_of _ 1 (by rw [lst_one, text_one])

theorem cut_text (r : Rat) : upS (textR r) = str (textOf r.num) ∧ doS (textR r) = (if (r.den : Int) = 1 then ⟨#[49]⟩ else str (textOf r.den)) := by
  unfold textR upS doS
  by_cases h : (r.den : Int) = 1
  · rw [if_pos h, if_pos h]
    have h1 := idx_none _ (text_slash r.num)
    have h2 : Lib.cut (str (textOf r.num)).data.toList [47] = ((str (textOf r.num)).data.toList, [], false) := by
      unfold Lib.cut
      rw [h1, if_neg (by omega)]
    rw [h2]
    exact ⟨rfl, rfl⟩
  · rw [if_neg h, if_neg h]
    have e : (str (textOf r.num) ++ ⟨#[47]⟩ ++ str (textOf (r.den : Int))).data.toList = (str (textOf r.num)).data.toList ++ 47 :: (str (textOf (r.den : Int))).data.toList := by
      simp [ByteArray.data_append]
    have h1 := idx_mid _ (str (textOf (r.den : Int))).data.toList (text_slash r.num)
    have h2 : Lib.cut (str (textOf r.num) ++ ⟨#[47]⟩ ++ str (textOf (r.den : Int))).data.toList [47] = ((str (textOf r.num)).data.toList, (str (textOf (r.den : Int))).data.toList, true) := by
      unfold Lib.cut
      rw [e, h1, if_pos (by omega)]
      generalize (str (textOf r.num)).data.toList = A
      generalize (str (textOf (r.den : Int))).data.toList = B
      have e1 : ((A.length : Int)).toNat = A.length := by omega
      rw [e1, show A ++ 47 :: B = (A ++ [47]) ++ B by simp, List.drop_left' (by simp), show (A ++ [47]) ++ B = A ++ ([47] ++ B) by simp, List.take_left' rfl]
    rw [h2]
    exact ⟨rfl, rfl⟩
theorem readQ_text (r : Rat) : readQ (textR r) = r := by
  obtain ⟨h1, h2⟩ := cut_text r
  rw [readQ, h1, h2, wholeV_text]
  by_cases hd : (r.den : Int) = 1
  · rw [if_pos hd, wholeV_one, ← hd]
    exact Rat.num_divInt_den r
  · rw [if_neg hd, wholeV_text]
    exact Rat.num_divInt_den r
/-- Two that are told as one text are one. -/
theorem textR_one {r t : Rat} (h : textR r = textR t) : r = t := by rw [← readQ_text r, h, readQ_text t]
theorem textR_bool (r t : Rat) : ((textR r).toList == (textR t).toList) = decide (r = t) := by
  rw [text_bool2]
  by_cases h : r = t
  · subst h; simp
  · rw [decide_eq_false h, decide_eq_false (fun e => h (textR_one e))]
theorem read_text (r : Rat) (h : (textR r).size ≤ 10001) : readE (textR r) = 0 ∧ readQ (textR r) = r := by
  obtain ⟨h1, h2⟩ := cut_text r
  have hq := readQ_text r
  refine ⟨?_, hq⟩
  have hok : textOf (wholeV (doS (textR r))) = lst (doS (textR r)) := by
    rw [h2]
    split
    · rw [wholeV_one, lst_one, text_one]
    · rw [wholeV_text, lst_text]
  have hne : wholeV (doS (textR r)) ≠ 0 := by
    rw [h2]
    have := r.den_nz
    split
    · rw [wholeV_one]; omega
    · rw [wholeV_text]; omega
  rw [readE, if_neg (by omega), if_neg (by simp only [not_or, Decidable.not_not]; exact ⟨by rw [h1, wholeV_text, lst_text], hok⟩), if_neg hne]
  show (if textR (readQ (textR r)) = textR r then 0 else 4) = 0
  rw [hq, if_pos rfl]

end Go.Proofs.YtogdchddmjokmaaGreatDoor
