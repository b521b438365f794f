/-
  Plain mathematics of the pieces of a text: what strconv.ParseInt makes of one, and what the fold over them counts as.
-/
import Derived.Test.YtogdchddmjokmaaGreatDoorWF
import Derived.Test.YtogdchddmjokmaaGreatDoorShelf
namespace Go.Proofs.YtogdchddmjokmaaGreatDoor
open Go.RowKit Lm
set_option linter.unusedSimpArgs false
set_option linter.unusedVariables false
set_option maxRecDepth 100000

/-- What a piece counts as: nought where it is no number. -/
def pieceV (s : ByteArray) : Int := match Lib.parseIntB 64 s.data.toList with | .ok v => v | _ => 0

theorem p10_17 : p10 17 = 100000000000000000 := rfl
theorem p10_18 : p10 18 = 1000000000000000000 := rfl
theorem pm_some : ∀ (l : List UInt8) (acc a : Nat), acc < p10 a → a + l.length ≤ 18 →
    Lib.parseUintM (2 ^ 64 - 1) acc l = .«syntax» ∨ ∃ u, Lib.parseUintM (2 ^ 64 - 1) acc l = .ok u ∧ u < p10 18
  | [], acc, a, h, hl => by
    simp only [Lib.parseUintM]
    exact .inr ⟨acc, rfl, Nat.lt_of_lt_of_le h (p10_mono (by simpa using hl))⟩
  | c :: r, acc, a, h, hl => by
    simp only [List.length_cons] at hl
    have h1 : acc < p10 17 := Nat.lt_of_lt_of_le h (p10_mono (by omega))
    rw [p10_17] at h1
    simp only [Lib.parseUintM]
    split
    · next hc =>
      rw [if_neg (by omega), if_neg (by omega)]
      refine pm_some r _ (a + 1) ?_ (by omega)
      simp only [p10]
      omega
    · exact .inl rfl
theorem pm_dig : ∀ (l : List UInt8) (acc a : Nat), acc < p10 a → a + l.length ≤ 18 → dig (l.map UInt8.toNat) →
    Lib.parseUintM (2 ^ 64 - 1) acc l = .ok (acc * p10 l.length + dval (l.map UInt8.toNat))
  | [], acc, a, h, hl, hd => by
    simp only [Lib.parseUintM]
    simp [p10, dval_nil]
  | c :: r, acc, a, h, hl, hd => by
    simp only [List.length_cons] at hl
    have h1 : acc < p10 17 := Nat.lt_of_lt_of_le h (p10_mono (by omega))
    rw [p10_17] at h1
    rw [List.map_cons, dig_cons] at hd
    simp only [Lib.parseUintM]
    rw [if_pos hd.1, if_neg (by omega), if_neg (by omega)]
    rw [pm_dig r _ (a + 1) (by simp only [p10]; omega) (by omega) hd.2]
    congr 1
    have e : dval (c.toNat :: r.map UInt8.toNat) = (c.toNat - 48) * p10 r.length + dval (r.map UInt8.toNat) := by
      rw [show c.toNat :: r.map UInt8.toNat = [c.toNat] ++ r.map UInt8.toNat from rfl, dval_append, List.length_map]
      congr 2
    rw [List.map_cons, e, List.length_cons]
    simp only [p10]
    generalize p10 r.length = X
    generalize c.toNat - 48 = d
    rw [Nat.add_mul, Nat.mul_assoc]
    omega
theorem data_lst (s : ByteArray) : s.data.toList.map UInt8.toNat = lst s := by rw [lst, ByteArray.toList_eq]
theorem data_len (s : ByteArray) : s.data.toList.length = s.size := by rw [Array.length_toList]; rfl
theorem piece_ok (s : ByteArray) (hs : s.size ≤ 18) : Lib.parseIntB 64 s.data.toList = .«syntax» ∨ ∃ v, Lib.parseIntB 64 s.data.toList = .ok v ∧ -1000000000000000000 < v ∧ v < 1000000000000000000 := by
  rw [← data_len] at hs
  generalize s.data.toList = l at hs
  have key : ∀ r : List UInt8, r.length ≤ 18 → Lib.parseUintB 64 r = .«syntax» ∨ ∃ u, Lib.parseUintB 64 r = .ok u ∧ u < 1000000000000000000 := fun r hr => by
    unfold Lib.parseUintB
    split
    · exact .inl rfl
    · have := pm_some r 0 0 (by simp [p10]) (by omega)
      rw [p10_18] at this
      exact this
  have hC : (2 : Nat) ^ (64 - 1) = 9223372036854775808 := rfl
  have sl : ∀ r : List UInt8, r.length ≤ 18 → Lib.signlessC (2 ^ (64 - 1)) (Lib.parseUintB 64 r) = .«syntax» ∨ ∃ v, Lib.signlessC (2 ^ (64 - 1)) (Lib.parseUintB 64 r) = .ok v ∧ -1000000000000000000 < v ∧ v < 1000000000000000000 := fun r hr => by
    rcases key r hr with h | ⟨u, h, hu⟩
    · rw [h]; exact .inl rfl
    · rw [h]
      simp only [Lib.signlessC]
      rw [if_neg (by rw [hC]; omega)]
      exact .inr ⟨_, rfl, by omega, by omega⟩
  cases l with
  | nil => exact .inl rfl
  | cons c r =>
    simp only [List.length_cons] at hs
    by_cases h43 : c = 43
    · subst h43; rw [Lib.parseIntB_plus]; exact sl r (by omega)
    by_cases h45 : c = 45
    · subst h45
      rw [Lib.parseIntB_minus]
      rcases key r (by omega) with h | ⟨u, h, hu⟩
      · rw [h]; exact .inl rfl
      · rw [h]
        simp only [Lib.signedC]
        rw [if_neg (by rw [hC]; omega)]
        exact .inr ⟨_, rfl, by omega, by omega⟩
    · rw [Lib.parseIntB_plain 64 c r (fun e => h43 (UInt8.toNat_inj.1 e)) (fun e => h45 (UInt8.toNat_inj.1 e))]
      exact sl _ (by simp; omega)
theorem pieceV_dig (s : ByteArray) (hs : s.size ≤ 18) (hd : dig (lst s)) : pieceV s = (dval (lst s) : Int) := by
  rw [← data_lst] at hd ⊢
  rw [← data_len] at hs
  unfold pieceV
  generalize s.data.toList = l at hs hd ⊢
  cases l with
  | nil => rfl
  | cons c r =>
    have hc := hd
    rw [List.map_cons, dig_cons] at hc
    rw [Lib.parseIntB_plain 64 c r (by omega) (by omega)]
    have h1 : Lib.parseUintB 64 (c :: r) = .ok (dval ((c :: r).map UInt8.toNat)) := by
      unfold Lib.parseUintB
      rw [if_neg (by simp), pm_dig (c :: r) 0 0 (by simp [p10]) (by omega) hd]
      simp
    have h2 : dval ((c :: r).map UInt8.toNat) < 1000000000000000000 := by
      have h3 := dval_lt hd
      have h4 : p10 ((c :: r).map UInt8.toNat).length ≤ p10 18 := p10_mono (by rw [List.length_map]; exact hs)
      rw [p10_18] at h4
      omega
    rw [h1]
    simp only [Lib.signlessC]
    rw [if_neg (by have hC : (2 : Nat) ^ (64 - 1) = 9223372036854775808 := rfl
                   rw [hC]; omega)]

/-- What the fold over pieces counts as. -/
def foldV : Int → List ByteArray → Int
  | x, [] => x
  | x, s :: r => foldV (x * 1000000000000000000 + pieceV s) r
theorem foldV_snoc (x : Int) (L : List ByteArray) (s : ByteArray) : foldV x (L ++ [s]) = foldV x L * 1000000000000000000 + pieceV s := by
  induction L generalizing x with
  | nil => rfl
  | cons t L ih => exact ih _
/-- The pieces of a text: the first of k bytes, then m of 18. -/
def cutN (s : ByteArray) (a : Nat) (i : Nat) : ByteArray := s.extract (a + i * 18) (a + i * 18 + 18)
def cutsN (s : ByteArray) (a : Nat) : Nat → List ByteArray
  | 0 => [s.extract 0 a]
  | m + 1 => cutsN s a m ++ [cutN s a m]
theorem cutsN_len (s : ByteArray) (a m : Nat) : (cutsN s a m).length = m + 1 := by
  induction m with
  | zero => rfl
  | succ m ih => rw [cutsN, List.length_append, ih]; rfl
theorem ext_size (s : ByteArray) (a b : Nat) (h : b ≤ s.size) : (s.extract a b).size = b - a := by
  rw [ByteArray.size_extract]; omega
theorem cutsN_size (s : ByteArray) (a m : Nat) (ha : a ≤ 18) (h : a + m * 18 ≤ s.size) : ∀ t ∈ cutsN s a m, t.size ≤ 18 := by
  induction m with
  | zero =>
    intro t ht
    simp [cutsN] at ht
    subst ht
    rw [ext_size s 0 a (by omega)]; omega
  | succ m ih =>
    intro t ht
    rw [cutsN, List.mem_append] at ht
    rcases ht with ht | ht
    · exact ih (by omega) t ht
    · simp at ht
      subst ht
      rw [cutN, ext_size _ _ _ (by omega)]; omega
theorem dig_drop {l : List Nat} (h : dig l) (k : Nat) : dig (l.drop k) := fun x hx => h x (List.mem_of_mem_drop hx)
theorem cuts_val (s : ByteArray) (a m : Nat) (ha : a ≤ 18) (h : a + m * 18 ≤ s.size) (hd : dig (lst s)) : foldV 0 (cutsN s a m) = (dval ((lst s).take (a + m * 18)) : Int) := by
  induction m with
  | zero =>
    have e : lst (s.extract 0 a) = (lst s).take a := by rw [lst_extract, List.drop_zero, Nat.sub_zero]
    simp only [cutsN, foldV]
    rw [pieceV_dig _ (by rw [ext_size s 0 a (by omega)]; omega) (by rw [e]; exact dig_take hd _), e]
    simp
  | succ m ih =>
    have e : lst (cutN s a m) = ((lst s).drop (a + m * 18)).take 18 := by rw [cutN, lst_extract]; congr 1; omega
    have el : (((lst s).drop (a + m * 18)).take 18).length = 18 := by rw [List.length_take, List.length_drop, lst_length]; omega
    rw [cutsN, foldV_snoc, ih (by omega), pieceV_dig _ (by rw [cutN, ext_size _ _ _ (by omega)]; omega) (by rw [e]; exact dig_take (dig_drop hd _) _), e]
    have h2 : (lst s).take (a + (m + 1) * 18) = (lst s).take (a + m * 18) ++ ((lst s).drop (a + m * 18)).take 18 := by
      rw [show a + (m + 1) * 18 = (a + m * 18) + 18 by omega, List.take_add]
    rw [h2, dval_append, el, p10_18]
    omega

end Go.Proofs.YtogdchddmjokmaaGreatDoor
