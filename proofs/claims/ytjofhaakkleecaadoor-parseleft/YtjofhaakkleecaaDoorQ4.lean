/-
  Walks: operators, constants, numbers, names.
-/
import Derived.Test.YtjofhaakkleecaaDoorQ3
import Derived.Deep.RegionLaw
namespace Go.Proofs.YtjofhaakkleecaaDoor
open Go.RowKit Lx
set_option linter.unusedSimpArgs false
set_option linter.unusedVariables false
set_option maxRecDepth 100000

theorem lst_tolist (s : ByteArray) : lst s = s.toList.map UInt8.toNat := rfl
theorem key_lit {t : List Nat} (ht : ∀ c ∈ t, c < 256) (l : List UInt8) : ((str t).toList == l) = decide (t = l.map UInt8.toNat) := by
  have h1 := lst_str ht
  rw [lst_tolist] at h1
  by_cases h : (str t).toList = l
  · subst h
    rw [h1]; simp
  · rw [beq_eq_false_iff_ne.2 h]
    symm
    apply decide_eq_false
    intro e
    apply h
    exact (List.map_inj_right (f := UInt8.toNat) (by intro a b h; exact UInt8.toNat_inj.1 h)).1 (h1.trans e)
set_option maxHeartbeats 3200000 in
theorem poper_any (w : World) (t : List Nat) (ht : ∀ c ∈ t, c < 256) : Calls Tryd.prog 63 #[.string (str t)] w fun e w' => e = .returned (.tuple #[.int .i64 ((opr t).1 : Int), .int .i64 ((opr t).2 : Int)]) ∧ w' = w := by
  have key := key_lit ht
  have KEY := hid key
  clear key
  go_enter Tryd.func63, Tryd.ntmps63
  go_wp2
  all_goals
    go_ret2
    refine ⟨?_, rfl⟩
    simp only [KEY.out, decide_eq_true_eq, decide_eq_false_iff_not] at *
    simp only [List.map, UInt8.toNat_ofNat] at *
    unfold opr
    simp [*]
section
variable {w w' : World} {B gT gR gt cap i d : Nat} {T : List Tk} {ns : List Nd}
theorem TS.tree (h : TS w B gT gR gt cap T i d ns) : ∃ ao m c, Box2 w gT (.pointer (some ⟨gR, 0, none⟩)) (.slice ao m c) ∧ OwnV w (gT + 1) 50 5 (.slice ao m c) (ns.map ndC) := by
  obtain ⟨v, h1, h2⟩ := h.tb
  obtain ⟨ao, m, c, rfl⟩ := h2.slice
  exact ⟨ao, m, c, h1, h2⟩
theorem pconst_any (h : TS w B gT gR gt cap T i d ns) (hi : i < T.length) (hn : ns.length ≤ i) (k : Nat) : Calls Tryd.prog 68 #[.pointer (some ⟨gT, 0, none⟩), .int .i64 (k : Int)] w fun e w' => e = .returned (.tuple #[]) ∧ TS w' B gT gR gt cap T (i + 1) d (ns ++ [⟨k, 0, [], -1, -1⟩]) ∧ Kx B gR w w' := by
  obtain ⟨ao, m, c, hb, -⟩ := h.tree
  obtain ⟨c0, c1⟩ := hb.c
  obtain ⟨r0, r1, r2⟩ := h.rs.box.c
  have rf := h.rs.box.f
  have rl := h.rs.box.lt
  have hT := h.rs.len
  have hi2 : (i : Int) + 1 ≤ 8200 := by omega
  have hn2 : ns.length ≤ 8200 := by omega
  have HS2 := hid (h.moved h.rs.step (grow_set (grow_refl w _) 1 _) h.deep)
  have HL : Hid (B ≤ w.heap.size) := hid (by have := h.lt; have := h.hi; omega)
  clear h hb
  go_enter Tryd.func68, Tryd.ntmps68
  go_wp2_with fail
  refine (padd_any HS2.out hn2 k (-1) (-1)).mono ?_
  rintro e w1 ⟨rfl, h1, h2⟩
  go_wp2_with fail
  go_end0
  exact ⟨rfl, h1, ((Kx.refl B gR w).set (.inl rfl) _).trans h2⟩
theorem digits_dec : ∀ (l : List UInt8) (a : Nat), (∀ c ∈ l.map UInt8.toNat, 48 ≤ c ∧ c ≤ 57) → Lib.decFrom a l = some ((l.map UInt8.toNat).foldl (fun z c => z * 10 + (c - 48)) a)
  | [], a, _ => rfl
  | b :: r, a, h => by
    have hb := h b.toNat (by simp)
    unfold Lib.decFrom Lib.digitVal
    rw [if_pos hb]
    simp only [List.map_cons, List.foldl_cons]
    exact digits_dec r _ (fun c hc => h c (by simp at hc ⊢; exact .inr hc))
theorem numV_atoi (s : ByteArray) (h1 : 0 < s.size) (h2 : ∀ c ∈ lst s, 48 ≤ c ∧ c ≤ 57) : Lib.atoi s.data.toList = some (numV (lst s) : Int) := by
  have e : lst s = s.data.toList.map UInt8.toNat := by rw [lst, ByteArray.toList_eq]
  have hl : 0 < s.data.toList.length := by rw [Array.length_toList]; exact h1
  rw [e] at h2 ⊢
  generalize s.data.toList = l at *
  match l, hl with
  | b :: r, _ =>
    have hb := h2 b.toNat (by simp)
    have h3 : ¬ (b == 45) = true := by
      intro h; have := eq_of_beq h; subst this; simp at hb
    have h4 : ¬ (b == 43) = true := by
      intro h; have := eq_of_beq h; subst this; simp at hb
    have h5 : Lib.atoi (b :: r) = (Lib.decNat (b :: r)).map fun (m : Nat) => (m : Int) := by
      show (if (b == 45) = true then _ else if (b == 43) = true then _ else _) = _
      rw [if_neg h3, if_neg h4]
    rw [h5]
    unfold Lib.decNat
    rw [if_neg (by simp), digits_dec _ _ h2]
    rfl
/-- A node is put behind the others. -/
theorem TS.put {nd : Nd} {o : Obj} {ao ao3 : Option Addr} {m c m3 c3 : Nat} {w3 : World} (h : TS w B gT gR gt cap T i d ns) (hb : Box2 w gT (.pointer (some ⟨gR, 0, none⟩)) (.slice ao m c)) (ho : OwnV w (gT + 1) 50 5 (.slice ao m c) (ns.map ndC))
    (hown3 : OwnV w3 (gT + 1) 50 5 (.slice ao3 m3 c3) (ns.map ndC ++ [ndC nd])) (hg3 : (w.alloc o).grownBy w3 (Value.slice ao m c).ownBlock) :
    Box2 w3 gT (.pointer (some ⟨gR, 0, none⟩)) (.slice ao m c) ∧ TS (w3.setCell ⟨gT, 1, none⟩ (.slice ao3 m3 c3)) B gT gR gt cap T i d (ns ++ [nd]) ∧ Kx B gR w (w3.setCell ⟨gT, 1, none⟩ (.slice ao3 m3 c3)) := by
  have hl := h.lt
  have hOL : ∀ g, (Value.slice ao m c).ownBlock = some g → gT + 1 ≤ g ∧ g < w.heap.size := fun g hv => World.ownsRow.lt ho g hv
  have hW : Below w.heap.size w (w.alloc o) := (Below.refl _ _).alloc (Nat.le_refl _) _
  have hb3 := (hb.at (hW.block gT hb.lt)).at (hg3.block gT (by simp; omega) (fun e => by have := hOL _ e.symm; omega))
  have h2 := (h.rs.below hW)
  have h3 := h2.at (w' := w3) (hg3.block gt (by simp; omega) (fun e => by have := hOL _ e.symm; omega)) (h2.box.at (hg3.block gR (by simp; omega) (fun e => by have := hOL _ e.symm; omega)))
  have h1 : Kx B gR w (w.alloc o) := (Kx.refl _ _ _).alloc (by have := h.hi; omega) _
  refine ⟨hb3, ⟨?_, ⟨_, hb3.set1 _, ?_⟩, h.lo, h.hi, h.deep⟩, ?_⟩
  · exact h3.at (heap_setCell_other w3 ⟨gT, 1, none⟩ gt _ (by simp; omega)) (h3.box.at (heap_setCell_other w3 ⟨gT, 1, none⟩ gR _ (by simp; omega)))
  · rw [List.map_append]
    exact hown3.same fun b hb hl => heap_setCell_other w3 ⟨gT, 1, none⟩ b _ (by simp; omega)
  · exact (h1.grown hg3 (by have := h.hi; simp; omega) (fun g e => by have := hOL _ e; have := h.hi; omega)).set (by have := h.hi; simp; omega) _
theorem RS.drew (h : RS w gR gt cap T i d) : RS w.drew gR gt cap T i d := ⟨h.box, h.toks, h.lt, h.cap, h.len⟩
theorem TS.drew (h : TS w B gT gR gt cap T i d ns) : TS w.drew B gT gR gt cap T i d ns := ⟨h.rs.drew, h.tb, h.lo, h.hi, h.deep⟩
theorem cells_new (w : World) (T : TypeId) (a b c d e : Value) : CellsAt (w.alloc (.cells #[a, b, c, d, e] T)) w.heap.size 0 [a, b, c, d, e] := by
  intro j u hu
  have e' := cell_of_row (w.alloc (.cells #[a, b, c, d, e] T)) w.heap.size j #[a, b, c, d, e] _ _ (heap_alloc_new w _)
  rw [Nat.zero_add, e', ← hu]
  simp
theorem pnumber_any (h : TS w B gT gR gt cap T i d ns) (ok : Tks.Ok T) (hi : i < T.length) (hn : ns.length ≤ i) (hk : (tks T i).k = 2) : Calls Tryd.prog 71 #[.pointer (some ⟨gT, 0, none⟩)] w fun e w' => e = .returned (.tuple #[]) ∧ TS w' B gT gR gt cap T (i + 1) d (ns ++ [⟨1, numV (tks T i).t, [], -1, -1⟩]) ∧ Kx B gR w w' := by
  obtain ⟨ao, m, c, hb, -⟩ := h.tree
  obtain ⟨c0, c1⟩ := hb.c
  have HT := hid (ptext_yes h.rs hi hk)
  have HS := hid h
  have htk := ok.num i hi (by rw [← tks_get hi]; exact hk)
  have htl := ok.name i hi (.inr (by rw [← tks_get hi]; exact hk))
  rw [← tks_get hi] at htk htl
  have hsm : ∀ c ∈ (tks T i).t, c < 256 := fun c hc => by have := htk.2 c hc; omega
  have HA : Hid (∀ W : World, Calls Tryd.prog 73 #[.string (str (tks T i).t)] W fun e w' => e = .returned (.tuple #[.int .i64 (numV (tks T i).t : Int), .nilIface]) ∧ Below W.heap.size W w') := hid fun W => by
    have hz : (str (tks T i).t).size = (tks T i).t.length := by simp [str, ByteArray.size]
    have hp : 0 < (tks T i).t.length := List.length_pos_iff.2 htl
    have ha := numV_atoi (str (tks T i).t) (by omega) (by rw [lst_str hsm]; exact htk.2)
    rw [lst_str hsm] at ha
    exact (Tryd.strconv_Atoi _ _ (by omega) ha W).mono fun e w' ⟨he, t, hw⟩ => ⟨he, by rw [hw]; exact Joins.below_bytesWorld _ _ _ _ (Nat.le_refl _)⟩
  have hn2 : (ns.map ndC).length ≤ 1000000 := by have := h.rs.len; rw [List.length_map]; omega
  have HN2 := hid hn2
  clear h hb htk htl hsm hn2
  generalize numV (tks T i).t = z at *
  generalize str (tks T i).t = s at *
  go_enter Tryd.func71, Tryd.ntmps71
  go_wp2_with fail
  refine HT.out.mono ?_
  rintro e w1 ⟨rfl, h1, h2⟩
  have S1 := HS.out.moved h1 h2 HS.out.deep
  go_wp2_with fail
  refine (HA.out _).mono ?_
  rintro e w2 ⟨rfl, hb2⟩
  have S2 := S1.below hb2
  obtain ⟨ao2, m2, k2, b2, o2⟩ := S2.tree
  clear c0 c1
  obtain ⟨c0, c1⟩ := b2.c
  have cf := b2.f
  have cl := b2.lt
  have HK2 := hid (((Kx.refl B gR w).grown h2 (by have := HS.out.lt; have := HS.out.hi; omega) (by intro b e; simp at e; omega)).below hb2 (by have := S1.lt; have := S1.hi; omega))
  have HS2 := hid S2
  have HB2 := hid b2
  have HO2 := hid o2
  have HO := hid (o2.below ((Below.refl _ _).alloc (Nat.le_refl _) (.cells #[.int .i64 1, .int .i64 (z : Int), .string ⟨#[]⟩, .int .i64 (-1), .int .i64 (-1)] 50)))
  have HSZ : Hid (gT + 1 ≤ (w2.alloc (.cells #[.int .i64 1, .int .i64 (z : Int), .string ⟨#[]⟩, .int .i64 (-1), .int .i64 (-1)] 50)).heap.size) := hid (by simp; omega)
  clear h1 h2 S1 hb2 S2 b2 o2
  go_wp2_with (at_builtin; go_must (refine wpList_append_v 40 50 5 48 _ Tryd.underlying40 Tryd.infoNd rfl (by decide) (by decide) rfl (.tmp 17) (.tmp 20) rfl (gT + 1) _ (ns.map ndC) rfl HO.out w2.heap.size 1 (ndC ⟨1, z, [], -1, -1⟩) rfl rfl (cells_new w2 _ _ _ _ _ _) (ndC_one _) HN2.out HSZ.out ?_); intro v3 w3 hown3 hg3; obtain ⟨ao3, m3, c3, rfl⟩ := hown3.slice; have hput := HS2.out.put HB2.out HO2.out hown3 hg3; obtain ⟨s0, s1⟩ := hput.1.c; have sf := hput.1.f; have sl := hput.1.lt)
  go_end0
  exact ⟨rfl, hput.2.1, HK2.out.trans hput.2.2⟩
/-- A node is appended, as a step of a region; it lies in a new block. -/
theorem step_node {ops : Array Oper} {o : Oper} {ac : Act} {K : Act → World → Prop} {Q : Exit → Act → World → Prop} {E : Prop} {a1 a2 a3 a4 a5 : Value}
    (hgd : o.guard = none) (s x : Operand) (hop : o.op = Op.call { callee := Callee.builtin Builtin.append, args := #[s, x], argTypes := #[40, 40] })
    (nd : Nd) {ao : Option Addr} {m c : Nat} (h : TS w B gT gR gt cap T i d ns) (hb : Box2 w gT (.pointer (some ⟨gR, 0, none⟩)) (.slice ao m c)) (ho : OwnV w (gT + 1) 50 5 (.slice ao m c) (ns.map ndC)) (hn : ns.length ≤ 8200)
    (hs : ac.eval s = .slice ao m c) (hx : ac.eval x = .slice (some ⟨w.heap.size, 0, none⟩) 1 1) (hnd : ndC nd = [a1, a2, a3, a4, a5])
    (hK : ∀ ao3 m3 c3 w3, Box2 w3 gT (.pointer (some ⟨gR, 0, none⟩)) (.slice ao m c) → TS (w3.setCell ⟨gT, 1, none⟩ (.slice ao3 m3 c3)) B gT gR gt cap T i d (ns ++ [nd]) → Kx B gR w (w3.setCell ⟨gT, 1, none⟩ (.slice ao3 m3 c3)) → K (ac.put o.dst (.slice ao3 m3 c3)) w3) :
    if Region.wanted o (yielded ops ac.tmps) = true then Oper.wp Tryd.prog o ac (w.alloc (.cells #[a1, a2, a3, a4, a5] 50)) K Q else E := by
  have hl := h.lt
  refine step_append_v 40 50 5 48 _ Tryd.underlying40 Tryd.infoNd rfl (by decide) (by decide) hgd s x hop (gT + 1) _ (ns.map ndC) hs (ho.below ((Below.refl _ _).alloc (Nat.le_refl _) _)) w.heap.size 1 (ndC nd) hx rfl (by rw [hnd]; exact cells_new w _ _ _ _ _ _) (ndC_one _) (by rw [List.length_map]; omega) (by simp; omega) ?_
  intro v3 w3 hown3 hg3
  obtain ⟨ao3, m3, c3, rfl⟩ := hown3.slice
  have hput := h.put hb ho hown3 hg3
  exact hK ao3 m3 c3 w3 hput.1 hput.2.1 hput.2.2
theorem keep_tree {v : Value} (hb : Box2 w gT (.pointer (some ⟨gR, 0, none⟩)) v) (h : TS w B gT gR gt cap T i d ns) {w1 : World} (hg : w.drew.grownBy w1 (some gR)) : Box2 w1 gT (.pointer (some ⟨gR, 0, none⟩)) v :=
  hb.at (hg.block gT hb.lt (by have := h.lt; simp; omega))
theorem Box2.alloc {x y : Value} (h : Box2 w gT x y) (o : Obj) : Box2 (w.alloc o) gT x y := h.at (((Below.refl _ _).alloc (Nat.le_refl _) o).block gT h.lt)
theorem run_enter {f : FuncId} {fn : Func} (hf : Tryd.prog.funcs[f]? = some fn) (hname : (fn.name == "runtime.NumGoroutine") = false) (hb : fn.body.isSome = true) (args : Array Value) (w : World) : (callFunc f args).run Tryd.prog w = .ok (.enter f args) w := by
  have h1 : fn.name ≠ "runtime.NumGoroutine" := by simpa using hname
  obtain ⟨b, h2⟩ := Option.isSome_iff_exists.1 hb
  simp [callFunc, hf, h1, h2, Sem.run]
/-- A call of a function with one argument, as a step of a region: it returns, or it does not. -/
theorem step_call1 {ops : Array Oper} {o : Oper} {ac : Act} {W : World} {K : Act → World → Prop} {Q : Exit → Act → World → Prop} {E : Prop} (f : FuncId) {fn : Func} (hf : Tryd.prog.funcs[f]? = some fn) (hname : (fn.name == "runtime.NumGoroutine") = false) (hb : fn.body.isSome = true)
    (ty : TypeId) (p : Value) (Rr : Ending → World → Prop)
    (hgd : o.guard = none) (x : Operand) (hop : o.op = Op.call { callee := Callee.value (Operand.func f), args := #[x], argTypes := #[ty] }) (hx : ac.eval x = p) (hC : Calls Tryd.prog f #[p] W Rr)
    (hr : ∀ e w', Rr e w' → ∃ v, e = .returned v ∧ K (ac.put o.dst v) w') : if Region.wanted o (yielded ops ac.tmps) = true then Oper.wp Tryd.prog o ac W K Q else E := by
  have hw : Region.wanted o (yielded ops ac.tmps) = true := by simp [Region.wanted, hgd]
  rw [if_pos hw]
  unfold Oper.wp
  have hfn : ac.eval (Operand.func f) = Value.func (Fn.func f) #[] #[] := rfl
  have hmap : Array.map ac.eval #[x] = #[p] := by simp [hx]
  have he : (execOp ac.eval o).run Tryd.prog W = .ok (.enter f #[p]) W := by
    simp only [execOp, hop, resolve, hfn, hmap]
    simp [invoke, go_sem, Deferred.ofValue, run_enter hf hname hb]
  rw [he, Oper.upon_enter]
  refine hC.mono ?_
  intro e w' h
  obtain ⟨v, rfl, hk⟩ := hr _ _ h
  exact hk
theorem keep_own {v : Value} {L : List (List Value)} (ho : OwnV w (gT + 1) 50 5 v L) (h : TS w B gT gR gt cap T i d ns) {w1 : World} (hg : w.drew.grownBy w1 (some gR)) : OwnV w1 (gT + 1) 50 5 v L :=
  OwnV.kept (w := w.drew) ho hg (by intro g e; simp at e; have := h.lt; omega)
theorem kx_read (h : TS w B gT gR gt cap T i d ns) {w1 : World} (hg : w.drew.grownBy w1 (some gR)) : Kx B gR w w1 :=
  (Kx.refl B gR w).drew.grown hg (by have := h.lt; have := h.hi; show B ≤ w.heap.size; omega) (by intro b e; simp at e; exact .inl e.symm)
theorem pvar_yes (h : TS w B gT gR gt cap T i d ns) (hi : i < T.length) (hn : ns.length ≤ i) (hk : (tks T i).k = 1) : Calls Tryd.prog 72 #[.pointer (some ⟨gT, 0, none⟩)] w fun e w' => e = .returned (.tuple #[]) ∧ TS w' B gT gR gt cap T (i + 1) d (ns ++ [⟨2, 0, (tks T i).t, -1, -1⟩]) ∧ Kx B gR w w' := by
  obtain ⟨ao, m, c, hb, ho⟩ := h.tree
  obtain ⟨c0, c1⟩ := hb.c
  have cl := hb.lt
  have HS := hid h
  have hn2 : ns.length ≤ 8200 := by have := h.rs.len; omega
  have HN2 := hid hn2
  have HB := hid hb
  have HO := hid ho
  have HI := hid hi
  have HK := hid hk
  clear h hb ho hn2 hn hi hk
  go_enter Tryd.func72, Tryd.ntmps72
  go_region_law (first
    | (refine step_call1 26 Tryd.func26 (by kernel_rfl) (by kernel_rfl) 54 (.pointer (some ⟨gR, 0, none⟩)) _ rfl (.tmp 10) rfl rfl (pname_yes HS.out.rs.drew HI.out HK.out) ?_; intro e w1 hx1; refine ⟨_, hx1.1, ?_⟩; have h1 := hx1.2.1; have h2 := hx1.2.2; have hk1 := (keep_tree HB.out HS.out h2); have S1 := hid (HS.out.drew.moved h1 h2 HS.out.deep); have O1 := hid (keep_own HO.out HS.out h2); obtain ⟨d0, d1⟩ := hk1.c; have dl := hk1.lt)
    | (refine step_node rfl (.tmp 6) (.tmp 13) rfl ⟨2, 0, (tks T i).t, -1, -1⟩ S1.out hk1 O1.out HN2.out rfl rfl rfl ?_; intro ao3 m3 c3 w3 hb3 hS3 hX3; obtain ⟨s0, s1⟩ := hb3.c; have sf := hb3.f; have sl := hb3.lt))
  all_goals (go_end0; exact ⟨rfl, hS3, (kx_read HS.out h2).trans hX3⟩)
end
end Go.Proofs.YtjofhaakkleecaaDoor
