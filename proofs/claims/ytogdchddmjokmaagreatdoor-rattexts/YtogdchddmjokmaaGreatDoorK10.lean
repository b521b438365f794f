/-
  Plain mathematics: a text that may be read is the text of what is read.
-/
import Derived.Test.YtogdchddmjokmaaGreatDoorK7
namespace Go.Proofs.YtogdchddmjokmaaGreatDoor
open Go.RowKit Lm
set_option linter.unusedSimpArgs false
set_option linter.unusedVariables false
set_option maxRecDepth 100000

theorem last_tail {c : Nat} {r : List Nat} (h : (c :: r).getLast? ≠ some 48) : r.getLast? ≠ some 48 := by
  cases r with
  | nil => simp
  | cons x xs => rwa [List.getLast?_cons_cons] at h
theorem decv_pos : ∀ (a : List Nat), a ≠ [] → dig a → a.getLast? ≠ some 48 → 0 < decv a
  | [], h, _, _ => absurd rfl h
  | [c], _, hd, hl => by
    have h1 := hd c (by simp)
    have h2 : c ≠ 48 := by simpa using hl
    simp only [decv]; omega
  | c :: x :: xs, _, hd, hl => by
    have h1 := decv_pos (x :: xs) (by simp) (fun y hy => hd y (List.mem_cons_of_mem _ hy)) (last_tail hl)
    have h2 := hd c (by simp)
    rw [decv]; omega
theorem decv_inj : ∀ (a b : List Nat), dig a → dig b → a.getLast? ≠ some 48 → b.getLast? ≠ some 48 → decv a = decv b → a = b
  | [], [], _, _, _, _, _ => rfl
  | [], c :: r, _, hb, _, h2, e => by have := decv_pos (c :: r) (by simp) hb h2; rw [← e] at this; simp [decv] at this
  | c :: r, [], ha, _, h1, _, e => by have := decv_pos (c :: r) (by simp) ha h1; rw [e] at this; simp [decv] at this
  | c :: r, d :: q, ha, hb, h1, h2, e => by
    have k1 := ha c (by simp)
    have k2 := hb d (by simp)
    rw [decv, decv] at e
    have e1 : c = d := by omega
    have e2 : decv r = decv q := by omega
    rw [e1, decv_inj r q (fun y hy => ha y (List.mem_cons_of_mem _ hy)) (fun y hy => hb y (List.mem_cons_of_mem _ hy)) (last_tail h1) (last_tail h2) e2]
theorem text_of_read (l : List Nat) (h : mayRead l) : textOf (readV l) = l := by
  obtain ⟨⟨hne, hd, h48⟩, hn⟩ := h
  have hl : l = (if isNeg l then [45] else []) ++ bodyOf l := by
    unfold bodyOf
    by_cases hx : isNeg l = true
    · rw [if_pos hx, if_pos hx]
      unfold isNeg at hx
      cases l with
      | nil => simp at hx
      | cons c r => simp at hx; simp [hx]
    · rw [if_neg hx, if_neg hx]; rfl
  by_cases h0 : bodyOf l = [48]
  · have hx : isNeg l = false := by
      cases hy : isNeg l with
      | false => rfl
      | true => exact absurd ⟨hy, h0⟩ hn
    rw [hx, h0] at hl
    have hl2 : l = [48] := hl
    rw [hl2]
    decide
  · have hh : (bodyOf l).head? ≠ some 48 := by
      intro hc
      have h1 := h48 hc
      match hb : bodyOf l, h1 with
      | [x], _ => rw [hb] at hc h0; simp at hc; exact h0 (by rw [hc])
    have hd2 : dig (bodyOf l).reverse := fun c hc => hd c (by simpa using hc)
    have hl2 : (bodyOf l).reverse.getLast? ≠ some 48 := by rw [List.getLast?_reverse]; exact hh
    have hp : 0 < dval (bodyOf l) := decv_pos _ (by simpa using hne) hd2 hl2
    have hs : decs (dval (bodyOf l)) = (bodyOf l).reverse := decv_inj _ _ (decs_dig _) hd2 (decs_last _) hl2 (decs_val _)
    unfold readV
    cases hx : isNeg l with
    | true =>
      rw [hx] at hl
      have hsg : sgn true (dval (bodyOf l)) = -(dval (bodyOf l) : Int) := by simp [sgn]
      rw [hsg]
      unfold textOf
      rw [if_neg (by omega), if_pos (by omega), Int.natAbs_neg, Int.natAbs_natCast, hs, List.reverse_reverse]
      exact hl.symm
    | false =>
      rw [hx] at hl
      have hsg : sgn false (dval (bodyOf l)) = (dval (bodyOf l) : Int) := by simp [sgn]
      rw [hsg]
      unfold textOf
      rw [if_neg (by omega), if_neg (by omega), Int.natAbs_natCast, hs, List.reverse_reverse]
      exact hl.symm
theorem may_text (s : ByteArray) : mayRead (lst s) ↔ textOf (wholeV s) = lst s := by
  constructor
  · intro h
    have h1 := text_of_read _ h
    rw [wholeV_of s _ h1, h1]
  · intro h
    rw [← h]
    exact (text_read _).1
theorem may_val (s : ByteArray) (h : mayRead (lst s)) : readV (lst s) = wholeV s := (wholeV_of s _ (text_of_read _ h)).symm
end Go.Proofs.YtogdchddmjokmaaGreatDoor
