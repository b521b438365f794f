/-
  What a law knows from call to call: texts, and what is read of them.
-/
import Derived.Test.YtalblhcfkfockaaEnv2
import Derived.Test.YtalblhcfkfockaaW29
namespace Go.Proofs.Ytalblhcfkfockaa
open Go.RowKit Lm
set_option linter.unusedSimpArgs false
set_option linter.unusedVariables false
set_option maxRecDepth 100000

variable {W0 W W' : World} {B B' : List (Nat × Value × Value)} {KA KI : List (Value × Nat × Int)} {u v : Value} {n m : Nat} {x y : Int}

theorem text_small (z : Int) : ∀ c ∈ textOf z, c < 256 := by
  intro c hc
  unfold textOf at hc
  split at hc
  · simp at hc; omega
  · rw [List.mem_append] at hc
    rcases hc with h | h
    · split at h
      · simp at h; omega
      · simp at h
    · have := decs_dig z.natAbs c (by simpa using h)
      omega
theorem lst_text (z : Int) : lst (str (textOf z)) = textOf z := lst_str (text_small z)
theorem str_size (z : Int) : (str (textOf z)).size = (textOf z).length := by rw [← lst_length, lst_text]
theorem text_toList (x y : Int) : ((str (textOf x)).toList == (str (textOf y)).toList) = decide (x = y) := by
  by_cases h : x = y
  · subst h; simp
  · rw [decide_eq_false h]
    have h1 : ¬ (str (textOf x)).toList = (str (textOf y)).toList := by
      intro e
      apply h
      rw [← text_inj, ← lst_text x, ← lst_text y, lst, lst, e]
    simpa using h1
theorem arg_abs {W : World} {v : Value} {n : Nat} {z : Int} (h : Arg W v n z) : z.natAbs < pw n := by
  obtain ⟨neg, sv, l, _, ⟨ao, cap, _, hs⟩, hl, hz⟩ := h
  have h1 := val_lt hs.1
  have h2 := pw_mono hl
  have h3 : z.natAbs ≤ val l := by
    rw [hz]; unfold mean
    split
    · rw [sgn_abs]; exact Nat.le_refl _
    · simp
  omega
/-- A number and no error have been told. -/
def SaysR (W0 : World) (B : List (Nat × Value × Value)) (KA KI : List (Value × Nat × Int)) (n : Nat) (x : Int) (e : Ending) (w' : World) : Prop :=
  ∃ neg ao k cap, e = .returned (.tuple #[.agg #[.bool neg, .slice ao k cap], .int .i64 0]) ∧ Env W0 w' B ((.agg #[.bool neg, .slice ao k cap], n, x) :: KA) ((.agg #[.bool neg, .slice ao k cap], n, x) :: KI)
theorem env_cmpE (E : Env W0 W B KA KI) (hu : (u, n, x) ∈ KA) (hv : (v, m, y) ∈ KA) (h : x = y) : Calls Try.prog 45 #[u, v] W fun e w' => e = .returned (.int .i64 0) ∧ Env W0 w' B KA KI := by
  refine (env_cmp2 E hu hv).mono ?_
  rintro e w' ⟨rfl, E2⟩
  exact ⟨by rw [cmpI_eq h], E2⟩
theorem cmpI_ne {x y : Int} (h : x ≠ y) : cmpI x y ≠ 0 := by
  unfold cmpI
  split
  · omega
  · split <;> omega
theorem env_cmpN (E : Env W0 W B KA KI) (hu : (u, n, x) ∈ KA) (hv : (v, m, y) ∈ KA) (h : x ≠ y) : Calls Try.prog 45 #[u, v] W fun e w' => ∃ z : Int, e = .returned (.int .i64 z) ∧ (z == 0) = false ∧ Env W0 w' B KA KI := by
  refine (env_cmp2 E hu hv).mono ?_
  rintro e w' ⟨rfl, E2⟩
  exact ⟨_, rfl, by simpa using cmpI_ne h, E2⟩
theorem env_may {b : Bool} {a : Option Addr} {k c : Nat} (E : Env W0 W B KA KI) (hu : (.agg #[.bool b, .slice a k c], n, x) ∈ KI) : Calls Try.prog 82 #[.agg #[.bool b, .slice a k c]] W fun e w' => e = .returned (.bool true) ∧ Env W0 w' B KA KI := by
  obtain ⟨neg, ao, cap, l, e, hs, _, _, hm, _⟩ := E.i _ hu
  simp only [Value.agg.injEq, Array.mk.injEq, List.cons.injEq, Value.bool.injEq, Value.slice.injEq, and_true] at e
  obtain ⟨rfl, rfl, rfl, rfl⟩ := e
  refine (may_any W b a c l hs).mono ?_
  rintro e w' ⟨rfl, hb⟩
  exact ⟨by rw [hm], E.step hb⟩

end Go.Proofs.Ytalblhcfkfockaa
