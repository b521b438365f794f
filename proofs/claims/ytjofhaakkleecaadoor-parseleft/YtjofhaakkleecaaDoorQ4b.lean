/-
  Walks: a name that is wanted and does not stand there.
-/
import Derived.Test.YtjofhaakkleecaaDoorQ4
namespace Go.Proofs.YtjofhaakkleecaaDoor
open Go.RowKit Lx
set_option linter.unusedSimpArgs false
set_option linter.unusedVariables false
set_option maxRecDepth 100000
/-- A call that does not return, as a step of a region: what follows it need not be walked, but may be. -/
theorem step_dead1 {ops : Array Oper} {o : Oper} {ac : Act} {W : World} {K : Act → World → Prop} {Q : Exit → Act → World → Prop} {E : Prop} (f : FuncId) {fn : Func} (hf : Tryd.prog.funcs[f]? = some fn) (hname : (fn.name == "runtime.NumGoroutine") = false) (hb : fn.body.isSome = true)
    (ty : TypeId) (p : Value) (Rr : Ending → World → Prop) (v : Value)
    (hgd : o.guard = none) (x : Operand) (hop : o.op = Op.call { callee := Callee.value (Operand.func f), args := #[x], argTypes := #[ty] }) (hx : ac.eval x = p) (hC : Calls Tryd.prog f #[p] W Rr)
    (hr : ∀ e w', Rr e w' → ∃ ch, e = .panicked ch ∧ Q (.panic ch) ac w') (hK : False → K (ac.put o.dst v) W) : if Region.wanted o (yielded ops ac.tmps) = true then Oper.wp Tryd.prog o ac W K Q else E := by
  have hw : Region.wanted o (yielded ops ac.tmps) = true := by simp [Region.wanted, hgd]
  rw [if_pos hw]
  unfold Oper.wp
  have hfn : ac.eval (Operand.func f) = Value.func (Fn.func f) #[] #[] := rfl
  have hmap : Array.map ac.eval #[x] = #[p] := by simp [hx]
  have he : (execOp ac.eval o).run Tryd.prog W = .ok (.enter f #[p]) W := by
    simp only [execOp, hop, resolve, hfn, hmap]
    simp [invoke, go_sem, Deferred.ofValue, run_enter hf hname hb]
  rw [he, Oper.upon_enter]
  refine hC.mono ?_
  intro e w' h
  obtain ⟨v, rfl, hk⟩ := hr _ _ h
  exact hk
section
variable {w w' : World} {B gT gR gt cap i d : Nat} {T : List Tk} {ns : List Nd}
theorem pvar_no (h : TS w B gT gR gt cap T i d ns) (hi : i < T.length) (hk : (tks T i).k ≠ 1) : Calls Tryd.prog 72 #[.pointer (some ⟨gT, 0, none⟩)] w fun e w' => Gone T 4 i e ∧ Kx B gR w w' := by
  obtain ⟨ao, m, c, hb, ho⟩ := h.tree
  obtain ⟨c0, c1⟩ := hb.c
  have cl := hb.lt
  have HS := hid h
  have HN := hid (pname_no h.rs.drew hi hk)
  have HB : Hid (Box2 w.drew gT (.pointer (some ⟨gR, 0, none⟩)) (.slice ao m c)) := hid hb
  have HO : Hid (OwnV w.drew (gT + 1) 50 5 (.slice ao m c) (ns.map ndC)) := hid ho
  have HZ : Hid (B ≤ w.drew.heap.size) := hid (show B ≤ w.heap.size by have := h.lt; have := h.hi; omega)
  clear h hb ho hi hk
  go_enter Tryd.func72, Tryd.ntmps72
  go_region_law (first
    | (refine step_dead1 26 Tryd.func26 (by kernel_rfl) (by kernel_rfl) 54 (.pointer (some ⟨gR, 0, none⟩)) _ (.string ⟨#[]⟩) rfl (.tmp 10) rfl rfl HN.out (fun e w1 hx => ⟨_, hx.1, rfl, rfl, (Kx.refl B gR w).drew.below hx.2 HZ.out⟩) ?_; intro hF; have HF := hid hF; clear hF)
    | (refine step_node (T := T) rfl (.tmp 6) (.tmp 13) rfl ⟨2, 0, [], -1, -1⟩ HS.out.drew HB.out HO.out HF.out.elim rfl rfl rfl ?_; intro ao3 m3 c3 w3 hb3 hS3 hX3; obtain ⟨s0, s1⟩ := hb3.c; have sf := hb3.f; have sl := hb3.lt))
  all_goals exact HF.out.elim
end
end Go.Proofs.YtjofhaakkleecaaDoor
