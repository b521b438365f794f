/-
  Rows of tokens that grow; the closure is made.
-/
import Derived.Test.YtjofhaakkleecaaDoorJ5
namespace Go.Proofs.YtjofhaakkleecaaDoor
open Go.RowKit Lx
set_option linter.unusedSimpArgs false
set_option linter.unusedVariables false
set_option maxRecDepth 100000

/-- A token's cells. -/
def tkC (t : Tk) : List Value := [.int .i64 (t.k : Int), .string (str t.t), .int .i64 (t.p : Int)]
def flatT : List Tk → List Value
  | [] => []
  | t :: L => tkC t ++ flatT L
theorem flatT_len (L : List Tk) : (flatT L).length = L.length * 3 := by
  induction L with
  | nil => rfl
  | cons t L ih => simp [flatT, tkC, ih]; omega
theorem flatT_app (L M : List Tk) : flatT (L ++ M) = flatT L ++ flatT M := by
  induction L with
  | nil => rfl
  | cons t L ih => simp [flatT, ih]
theorem flatT_get (L : List Tk) (j : Nat) (h : j < L.length) : (flatT L)[j * 3]? = some (.int .i64 (L[j].k : Int)) ∧ (flatT L)[j * 3 + 1]? = some (.string (str L[j].t)) ∧ (flatT L)[j * 3 + 2]? = some (.int .i64 (L[j].p : Int)) := by
  induction L generalizing j with
  | nil => simp at h
  | cons t L ih =>
    cases j with
    | zero => simp [flatT, tkC]
    | succ j =>
      simp at h
      obtain ⟨t0, t1, t2⟩ := ih j h
      have hl : (tkC t).length = 3 := rfl
      have key : ∀ c, (tkC t ++ flatT L)[(j + 1) * 3 + c]? = (flatT L)[j * 3 + c]? := fun c => by
        rw [List.getElem?_append_right (by omega), hl, show (j + 1) * 3 + c - 3 = j * 3 + c by omega]
      exact ⟨(key 0).trans t0, (key 1).trans t1, (key 2).trans t2⟩
theorem flatT_one (L : List Tk) : ∀ u ∈ flatT L, u.oneCell' = true := by
  induction L with
  | nil => simp [flatT]
  | cons t L ih =>
    intro u hu
    simp only [flatT, List.mem_append] at hu
    rcases hu with hu | hu
    · simp [tkC] at hu
      rcases hu with rfl | rfl | rfl <;> rfl
    · exact ih u hu
theorem ext_str (s : ByteArray) (a b : Nat) : s.extract a b = str (((lst s).drop a).take (b - a)) := by
  refine lst_inj ?_
  rw [lst_extract, lst_str]
  intro c hc
  exact lst_small s c (List.mem_of_mem_drop (List.mem_of_mem_take hc))
theorem str_nil : str [] = ⟨#[]⟩ := rfl

theorem Tryd.infoTok : (Tryd.prog.info? 35).map (fun i => (i.zero, i.size, i.bytes)) = some (some (.agg #[.int .i64 0, .string ⟨#[]⟩, .int .i64 0]), 3, 32) := by kernel_rfl

/-- A row of tokens of one's own. -/
def OwnT (w : World) (base : Nat) (v : Value) (L : List Tk) : Prop := w.ownsRow base 35 3 v L.length (flatT L)
theorem ownT_nil (w : World) (base : Nat) : OwnT w base (.slice none 0 0) [] := World.ownsRow_nil _ _ _ _
theorem OwnT.grown {w w' : World} {base : Nat} {v : Value} {L : List Tk} {row : Option Nat} (h : OwnT w base v L) (hg : w.grownBy w' row) (hne : ∀ g, row = some g → g < base) : OwnT w' base v L := by
  refine World.ownsRow.kept h hg ?_
  cases hv : v.ownBlock with
  | none => exact .inl rfl
  | some g =>
    refine .inr ?_
    intro e
    have := hne g e.symm
    have := (World.ownsRow.lt h g hv).1
    omega
theorem OwnT.below {w w' : World} {base : Nat} {v : Value} {L : List Tk} (h : OwnT w base v L) (hb : Below w.heap.size w w') : OwnT w' base v L :=
  h.grown (row := none) ⟨hb.os, hb.tape, hb.output, hb.size, fun k hk _ => hb.block k hk⟩ (by simp)
theorem OwnT.low {w : World} {base base' : Nat} {v : Value} {L : List Tk} (h : OwnT w base v L) (hb : base' ≤ base) : OwnT w base' v L := by
  refine ⟨h.1, ?_⟩
  rcases h.2 with ⟨h1, h2⟩ | ⟨g, cap, cur, h1, hbg, h2⟩
  · exact .inl ⟨h1, h2⟩
  · exact .inr ⟨g, cap, cur, h1, Nat.le_trans hb hbg, h2⟩
/-- A token at a place of a block. -/
def At3 (w : World) (g o : Nat) (t : Tk) : Prop := w.cell? ⟨g, o, none⟩ = some (.int .i64 (t.k : Int)) ∧ w.cell? ⟨g, o + 1, none⟩ = some (.string (str t.t)) ∧ w.cell? ⟨g, o + 2, none⟩ = some (.int .i64 (t.p : Int))
theorem OwnT.shape {w : World} {base : Nat} {v : Value} {L : List Tk} (h : OwnT w base v L) : ∃ ao cap, v = .slice ao L.length cap ∧ L.length ≤ cap ∧ cap ≤ maxLen ∧ (L.length = 0 ∨ ∃ g, ao = some ⟨g, 0, none⟩ ∧ base ≤ g ∧ g < w.heap.size ∧ ∀ j (hj : j < L.length), At3 w g (j * 3) L[j]) := by
  rcases h.2 with ⟨rfl, h0⟩ | ⟨g, cap, cur, rfl, hbg, hg, hnc, hcm, hcs, htake⟩
  · exact ⟨none, 0, by rw [h0], by omega, by unfold maxLen; omega, .inl h0⟩
  · refine ⟨_, cap, rfl, hnc, hcm, .inr ⟨g, rfl, hbg, (Array.getElem?_eq_some_iff.1 hg).1, fun j hj => ?_⟩⟩
    obtain ⟨f0, f1, f2⟩ := flatT_get L j hj
    have key : ∀ c, c < 3 → w.cell? ⟨g, j * 3 + c, none⟩ = (flatT L)[j * 3 + c]? := fun c hc => World.ownsRow.cellAt h (j * 3 + c) (by omega)
    exact ⟨(key 0 (by omega)).trans f0, (key 1 (by omega)).trans f1, (key 2 (by omega)).trans f2⟩

/-- One token is appended. -/
theorem wpList_append_tk {ops : Array Oper} {rest : List Oper} {o : Oper} {ac : Act} {w : World} {Q : Exit → Act → World → Prop}
    (hgd : o.guard = none) (s x : Operand) (hop : o.op = Op.call { callee := Callee.builtin Builtin.append, args := #[s, x], argTypes := #[29, 29] })
    (base : Nat) (v : Value) (L : List Tk) (hs : ac.eval s = v) (hown : OwnT w base v L) (b c : Nat) (t : Tk) (hx : ac.eval x = .slice (some ⟨b, 0, none⟩) 1 c) (hnews : At3 w b 0 t) (hk : L.length ≤ 1000000) (hbase : base ≤ w.heap.size)
    (hK : ∀ v' w', OwnT w' base v' (L ++ [t]) → w.grownBy w' v.ownBlock → wpList Tryd.prog ops Q rest (ac.put o.dst v') w') : wpList Tryd.prog ops Q (o :: rest) ac w := by
  obtain ⟨i0, hi, hz0, hz1, hz2⟩ := info_parts Tryd.infoTok
  obtain ⟨v', w', hr, h1, h2, -⟩ := run_append_own (P := Tryd.prog) w base 29 o.type 35 i0 _ 3 32 Tryd.underlying29 hi hz0 hz1 hz2 rfl (by decide) v L.length (flatT L) hown ⟨b, 0, none⟩ 1 c (flatT [t]) rfl (by
    intro j u hj
    match j, hj with
    | 0, hj => simp [flatT, tkC] at hj; subst hj; simpa [Addr.add] using hnews.1
    | 1, hj => simp [flatT, tkC] at hj; subst hj; simpa [Addr.add] using hnews.2.1
    | 2, hj => simp [flatT, tkC] at hj; subst hj; simpa [Addr.add] using hnews.2.2
    | j + 3, hj => simp [flatT, tkC] at hj) (flatT_one [t]) (by unfold maxLen; omega) (by omega) hbase
  have hO : OwnT w' base v' (L ++ [t]) := by
    unfold OwnT
    rw [flatT_app, List.length_append]
    exact h1
  refine wpList_plain hgd fun K hK' => ?_
  unfold Oper.wp
  simp [execOp, hop, resolve, invoke, builtin, hs, hx, hr, Result.andThen]
  exact hK' _ _ (hK v' w' hO h2)

theorem reader_any (w : World) (s : ByteArray) : Calls Tryd.prog 14 #[.string s] w fun e w' => e = .returned (.func (.func 20) #[] #[.pointer (some ⟨w.heap.size + 1, 0, none⟩), .pointer (some ⟨w.heap.size, 0, none⟩)]) ∧ Box1 w' w.heap.size (.string s) ∧ Box1 w' (w.heap.size + 1) (.int .i64 0) ∧ w'.heap.size = w.heap.size + 2 ∧ Below w.heap.size w w' := by
  go_enter Tryd.func14, Tryd.ntmps14
  go_wp2
  go_ret
  refine ⟨rfl, ?_, ?_, ?_, ?_⟩
  · exact (Box1.new w (.string s) _).alloc _
  · have := Box1.new (w.alloc (.cells #[.string s] 9)) (.int .i64 0) 3
    rw [asize] at this
    exact this
  · simp
  · exact ((Below.refl _ _).alloc (Nat.le_refl _) _).alloc (by simp) _

end Go.Proofs.YtjofhaakkleecaaDoor
