/-
  What a law knows while it goes from call to call: its boxes, the numbers that it has been handed or told, and that nothing old has turned.
-/
import Derived.Test.YtalblhcfkfockaaW17
import Derived.Test.YtalblhcfkfockaaW18
import Derived.Test.YtalblhcfkfockaaF1
namespace Go.Proofs.Ytalblhcfkfockaa
open Go.RowKit Lm
set_option linter.unusedSimpArgs false
set_option linter.unusedVariables false
set_option maxRecDepth 100000

structure Env (W0 W : World) (B : List (Nat × Value × Value)) (KA KI : List (Value × Nat × Int)) : Prop where
  bx : ∀ p ∈ B, Box W p.1 p.2.1 p.2.2
  a : ∀ p ∈ KA, Arg W p.1 p.2.1 p.2.2
  i : ∀ p ∈ KI, Is W 0 p.1 p.2.1 p.2.2
  bl : Below W0.heap.size W0 W

variable {W0 W W' : World} {B : List (Nat × Value × Value)} {KA KI : List (Value × Nat × Int)} {u v : Value} {n m : Nat} {x y : Int}

theorem Env.step (E : Env W0 W B KA KI) (hb : Below W.heap.size W W') : Env W0 W' B KA KI :=
  ⟨fun p hp => (E.bx p hp).keep hb, fun p hp => (E.a p hp).below hb, fun p hp => (E.i p hp).below hb, below_call E.bl hb E.bl.size⟩
theorem Env.drew (E : Env W0 W B KA KI) : Env W0 W.drew B KA KI :=
  ⟨fun p hp => (E.bx p hp).drew, fun p hp => E.a p hp, fun p hp => (E.i p hp).drew, E.bl.drew⟩
theorem Env.alloc (E : Env W0 W B KA KI) (o : Obj) : Env W0 (W.alloc o) B KA KI := E.step ((Below.refl _ _).alloc (Nat.le_refl _) o)
theorem Env.box (E : Env W0 W B KA KI) (x y : Value) : Env W0 (W.alloc (.cells #[x, y] 27)) ((W.heap.size, x, y) :: B) KA KI := by
  have E2 := E.alloc (.cells #[x, y] 27)
  refine ⟨fun p hp => ?_, E2.a, E2.i, E2.bl⟩
  rcases List.mem_cons.1 hp with rfl | h
  · exact Box.new W x y _ rfl
  · exact E2.bx p h
theorem Env.next {lo : Nat} (E : Env W0 W B KA KI) (hb : Below W.heap.size W W') (hI : Is W' lo v n x) : Env W0 W' B ((v, n, x) :: KA) ((v, n, x) :: KI) := by
  have E2 := E.step hb
  refine ⟨E2.bx, fun p hp => ?_, fun p hp => ?_, E2.bl⟩
  · rcases List.mem_cons.1 hp with rfl | h
    · exact hI.arg
    · exact E2.a p h
  · rcases List.mem_cons.1 hp with rfl | h
    · exact hI.mono (Nat.zero_le _) (Nat.le_refl _)
    · exact E2.i p h
theorem Env.know (E : Env W0 W B KA KI) (h : Arg W v n x) : Env W0 W B ((v, n, x) :: KA) KI := by
  refine ⟨E.bx, fun p hp => ?_, E.i, E.bl⟩
  rcases List.mem_cons.1 hp with rfl | h'
  · exact h
  · exact E.a p h'

/-- A number has been told. -/
def Says (W0 : World) (B : List (Nat × Value × Value)) (KA KI : List (Value × Nat × Int)) (n : Nat) (x : Int) (e : Ending) (w' : World) : Prop :=
  ∃ neg ao k cap, e = .returned (.agg #[.bool neg, .slice ao k cap]) ∧ Env W0 w' B ((.agg #[.bool neg, .slice ao k cap], n, x) :: KA) ((.agg #[.bool neg, .slice ao k cap], n, x) :: KI)

theorem says_of {lo n : Nat} {e : Ending} (E : Env W0 W B KA KI) (h : Told lo n x W e W') : Says W0 B KA KI n x e W' := by
  obtain ⟨neg, ao, k, cap, rfl, hI, hb⟩ := h
  exact ⟨neg, ao, k, cap, rfl, E.next hb hI⟩

theorem env_of (E : Env W0 W B KA KI) (x : Int) (h1 : -9223372036854775808 ≤ x) (h2 : x ≤ 9223372036854775807) : Calls Try.prog 77 #[.int .i64 x] W (Says W0 B KA KI 2 x) :=
  (of_num W x h1 h2).mono fun _ _ h => says_of E h
theorem env_add (E : Env W0 W B KA KI) (hu : (u, n, x) ∈ KA) (hv : (v, m, y) ∈ KA) (hn : n ≤ 1000000) (hm : m ≤ 1000000) : Calls Try.prog 101 #[u, v] W (Says W0 B KA KI (n + m + 1) (x + y)) :=
  (add_num W u v n m x y (E.a _ hu) (E.a _ hv) hn hm).mono fun _ _ h => says_of E h
theorem env_mul (E : Env W0 W B KA KI) (hu : (u, n, x) ∈ KA) (hv : (v, m, y) ∈ KA) (hn : n ≤ 500000) (hm : m ≤ 500000) : Calls Try.prog 46 #[u, v] W (Says W0 B KA KI (n + m) (x * y)) :=
  (mul_num W u v n m x y (E.a _ hu) (E.a _ hv) hn hm).mono fun _ _ h => says_of E h
/-- Two that are one are said to be the same. -/
theorem env_same (E : Env W0 W B KA KI) (hu : (u, n, x) ∈ KI) (hv : (v, m, y) ∈ KI) (hxy : x = y) : Calls Try.prog 48 #[u, v] W fun e w' => e = .returned (.bool true) ∧ Env W0 w' B KA KI := by
  refine (same_num W u v n m 0 0 x y (E.i _ hu) (E.i _ hv)).mono ?_
  rintro e w' ⟨rfl, hb⟩
  exact ⟨by rw [decide_eq_true hxy], E.step hb⟩
theorem env_text (E : Env W0 W B KA KI) (hu : (u, n, x) ∈ KA) (hn : n ≤ 1000000) : Calls Try.prog 57 #[u] W fun e w' => e = .returned (.string (str (textOf x))) ∧ Env W0 w' B KA KI := by
  refine (text_num W u n x (E.a _ hu) hn).mono ?_
  rintro e w' ⟨rfl, hb⟩
  exact ⟨rfl, E.step hb⟩
theorem env_num (E : Env W0 W B KA KI) (x : Int) : Calls Try.prog 18 #[.int .i64 x] W fun e w' => e = .returned (.int .i64 x) ∧ Env W0 w' B KA KI := by
  refine (num_any W x).mono ?_
  rintro e w' ⟨rfl, rfl⟩
  exact ⟨rfl, E⟩

theorem arg_zero (W : World) : Arg W (.agg #[.bool false, .slice none 0 0]) 0 0 :=
  ⟨false, _, [], rfl, ⟨none, 0, rfl, ok_nil, by simp, by unfold maxLen; omega, .inl ⟨rfl, fun _ => rfl⟩⟩, by simp, by simp [mean, mayB, sgn, val]⟩
theorem arg_mk {W : World} {neg : Bool} {ao : Option Addr} {cap : Nat} {l : List Nat} (h : SlAt W ao cap l) : Arg W (.agg #[.bool neg, .slice ao l.length cap]) l.length (mean neg l) := ⟨neg, _, l, rfl, ⟨ao, cap, rfl, h⟩, Nat.le_refl _, rfl⟩

end Go.Proofs.Ytalblhcfkfockaa
