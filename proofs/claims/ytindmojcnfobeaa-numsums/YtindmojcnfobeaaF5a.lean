/-
  Walks: what the law NumSums needs besides: the document's own numbers told on; copies of limbs.
-/
import Derived.Test.YtindmojcnfobeaaEnv
import Derived.Test.YtindmojcnfobeaaR7
import Derived.Deep.RegionLawGrows
namespace Go.Proofs.Ytindmojcnfobeaa
open Go.RowKit Lm
set_option linter.unusedSimpArgs false
set_option linter.unusedVariables false

variable {W0 W W' : World} {B : List (Nat × Value × Value)} {KA KI : List (Value × Nat × Int)} {u v : Value} {n m : Nat} {x y : Int}

theorem env_radd (E : Env W0 W B KA KI) (hu : (u, n, x) ∈ KA) (hv : (v, m, y) ∈ KA) (hn : n ≤ 400000) (hm : m ≤ 400000) : Calls Try.prog 25 #[u, v] W (Says W0 B KA KI (n + m + 1) (x + y)) :=
  (radd_num W u v n m x y (E.a _ hu) (E.a _ hv) hn hm).mono fun _ _ h => says_of E h
theorem env_rsub (E : Env W0 W B KA KI) (hu : (u, n, x) ∈ KA) (hv : (v, m, y) ∈ KA) (hn : n ≤ 400000) (hm : m ≤ 400000) : Calls Try.prog 27 #[u, v] W (Says W0 B KA KI (n + m + 1) (x - y)) :=
  (rsub_num W u v n m x y (E.a _ hu) (E.a _ hv) hn hm).mono fun _ _ h => says_of E h
theorem env_rmul (E : Env W0 W B KA KI) (hu : (u, n, x) ∈ KA) (hv : (v, m, y) ∈ KA) (hn : n ≤ 400000) (hm : m ≤ 400000) : Calls Try.prog 29 #[u, v] W (Says W0 B KA KI (n + m) (x * y)) :=
  (rmul_num W u v n m x y (E.a _ hu) (E.a _ hv) (by omega) (by omega)).mono fun _ _ h => says_of E h
theorem env_rneg (E : Env W0 W B KA KI) (hu : (u, n, x) ∈ KA) (hn : n ≤ 1000000) : Calls Try.prog 31 #[u] W (Says W0 B KA KI n (-x)) :=
  (rneg_num W u n x (E.a _ hu) hn).mono fun _ _ h => says_of E h
theorem env_neg (E : Env W0 W B KA KI) (hu : (u, n, x) ∈ KA) (hn : n ≤ 1000000) : Calls Try.prog 30 #[u] W (Says W0 B KA KI n (-x)) :=
  (neg_num W u n x (E.a _ hu) hn).mono fun _ _ h => says_of E h
theorem env_cmp (E : Env W0 W B KA KI) (hu : (u, n, x) ∈ KA) (hv : (v, m, y) ∈ KA) : Calls Try.prog 32 #[u, v] W fun e w' => e = .returned (.int .i64 (cmpI x y)) ∧ Env W0 w' B KA KI := by
  refine (cmp_num W u v n m x y (E.a _ hu) (E.a _ hv)).mono ?_
  rintro e w' ⟨rfl, hb⟩
  exact ⟨rfl, E.step hb⟩
theorem env_rcmp (E : Env W0 W B KA KI) (hu : (u, n, x) ∈ KA) (hv : (v, m, y) ∈ KA) (hn : n ≤ 400000) (hm : m ≤ 400000) : Calls Try.prog 33 #[u, v] W fun e w' => e = .returned (.int .i64 (cmpI x y)) ∧ Env W0 w' B KA KI := by
  refine (rcmp_num W u v n m x y (E.a _ hu) (E.a _ hv) hn hm).mono ?_
  rintro e w' ⟨rfl, hb⟩
  exact ⟨rfl, E.step hb⟩

/-- Nothing appended to an empty slice of the call's own, as a step of a region. -/
theorem step_append_empty {P : Program} {ops : Array Oper} {o : Oper} {a : Act} {w : World} {K : Act → World → Prop} {Q : Exit → Act → World → Prop} {E : Prop}
    (hg : o.guard = none) (s x : Operand) (t : TypeId) (hop : o.op = Op.call { callee := Callee.builtin Builtin.append, args := #[s, x], argTypes := #[t, t] })
    (e : TypeId) (i : TypeInfo) (h1 : P.underlying t = some (.slice e)) (h2 : P.info? e = some i)
    (ad : Addr) (hs : a.eval s = .slice (some ad) 0 0) (xo : Option Addr) (c : Nat) (hx : a.eval x = .slice xo 0 c)
    (hK : K (a.put o.dst (.slice (some ad) 0 0)) w) :
    if Region.wanted o (yielded ops a.tmps) = true then Oper.wp P o a w K Q else E := by
  have hw : Region.wanted o (yielded ops a.tmps) = true := by simp [Region.wanted, hg]
  rw [if_pos hw]
  have hrun : (Builtin.append_ #[t, t] o.type #[.slice (some ad) 0 0, .slice xo 0 c]).run P w = .ok (.slice (some ad) 0 0) w := by
    cases xo with
    | none => simp [Builtin.append_, run_underlying h1, sizeOf, typeInfo, h2, Builtin.lenOf, Builtin.firstCells, storeCells]
    | some b =>
      have hf := run_firstCells_some (P := P) w i.size 0 b 0 c [] (by simp) (by simp)
      simp [Builtin.append_, run_underlying h1, sizeOf, typeInfo, h2, Builtin.lenOf, hf, storeCells]
  unfold Oper.wp
  simp [execOp, hop, resolve, invoke, builtin, hs, hx, hrun, Result.andThen]
  exact hK

end Go.Proofs.Ytindmojcnfobeaa
