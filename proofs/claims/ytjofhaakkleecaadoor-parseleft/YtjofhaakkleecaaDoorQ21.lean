/-
  Walks: programs.
-/
import Derived.Test.YtjofhaakkleecaaDoorQ20
namespace Go.Proofs.YtjofhaakkleecaaDoor
open Go.RowKit Lx
set_option linter.unusedSimpArgs false
set_option linter.unusedVariables false
set_option maxRecDepth 100000

def PrsV (w : World) (ok : Nat → Prop) : List Pr → List (List Value) → Prop
  | [], [] => True
  | p :: L, c :: C => (c.length = 5 ∧ PrV w ok p (.agg c.toArray)) ∧ PrsV w ok L C
  | _, _ => False
theorem PrsV.move {w w' : World} {ok ok' : Nat → Prop} (hs : Same w w' ok ok') : ∀ {L : List Pr} {C : List (List Value)}, PrsV w ok L C → PrsV w' ok' L C
  | [], [], _ => trivial
  | p :: L, c :: C, ⟨⟨h1, h2⟩, h3⟩ => ⟨⟨h1, h2.move hs⟩, PrsV.move hs h3⟩
  | [], _ :: _, h => h.elim
  | _ :: _, [], h => h.elim
theorem PrsV.snoc {w : World} {ok : Nat → Prop} {p : Pr} {c : List Value} (h1 : c.length = 5) (h2 : PrV w ok p (.agg c.toArray)) : ∀ {L : List Pr} {C : List (List Value)}, PrsV w ok L C → PrsV w ok (L ++ [p]) (C ++ [c])
  | [], [], _ => ⟨⟨h1, h2⟩, trivial⟩
  | q :: L, d :: C, ⟨h, h3⟩ => ⟨h, PrsV.snoc h1 h2 h3⟩
  | [], _ :: _, h => h.elim
  | _ :: _, [], h => h.elim
theorem PrsV.len {w : World} {ok : Nat → Prop} : ∀ {L : List Pr} {C : List (List Value)}, PrsV w ok L C → C.length = L.length ∧ ∀ c ∈ C, c.length = 5
  | [], [], _ => ⟨rfl, by simp⟩
  | p :: L, c :: C, ⟨⟨h1, _⟩, h3⟩ => by
    obtain ⟨a, b⟩ := PrsV.len h3
    refine ⟨by simp [a], fun x hx => ?_⟩
    rcases List.mem_cons.1 hx with rfl | hx
    · exact h1
    · exact b x hx
  | [], _ :: _, h => h.elim
  | _ :: _, [], h => h.elim
def PgF (w : World) (ok : Nat → Prop) (ag : Option Addr) (mg cg : Nat) (L : List Pr) : Prop := ∃ vs, SlF w ok 5 ag mg cg vs ∧ PrsV w ok L vs
theorem PgF.move {w w' : World} {ok ok' : Nat → Prop} {ag : Option Addr} {mg cg : Nat} {L : List Pr} (h : PgF w ok ag mg cg L) (hs : Same w w' ok ok') : PgF w' ok' ag mg cg L := by
  obtain ⟨vs, h1, h2⟩ := h
  exact ⟨vs, h1.move hs, h2.move hs⟩
/-- A program's value. -/
def PgV (w : World) (ok : Nat → Prop) (L : List Pr) (v : Value) : Prop := ∃ ag mg cg, v = .agg #[.slice ag mg cg] ∧ PgF w ok ag mg cg L
theorem Tryd.infoPr : (Tryd.prog.info? 45).map (fun i => (i.zero, i.size, i.bytes)) = some (some (.agg #[.string ⟨#[]⟩, .slice none 0 0, .string ⟨#[]⟩, .slice none 0 0, .slice none 0 0]), 5, 104) := by kernel_rfl
theorem res_prog {W : World} {g : Nat} {y0 : Value} (tmps : Array Value) (hg : tmps[2]? = some (.pointer (some ⟨g, 0, none⟩))) (h : Box1 W g y0) : (results Tryd.f13 tmps).run Tryd.prog W = .ok (.agg #[y0]) W := by
  have c0 := h.c
  simp [results, Tryd.results13, go_sem, hg, c0]
theorem cells5_new (w : World) (T : TypeId) (a b c d e : Value) : CellsAt (w.alloc (.cells #[a, b, c, d, e] T)) w.heap.size 0 [a, b, c, d, e] := cells_new w T a b c d e
/-- One value is appended, as a step of a region; where the row lies then. -/
theorem step_append_vl {ops : Array Oper} {o : Oper} {ac : Act} {w : World} {K : Act → World → Prop} {Q : Exit → Act → World → Prop} {E : Prop}
    (ST e : TypeId) (n bs : Nat) (z : Value) (hu : Tryd.prog.underlying ST = some (.slice e)) (hinfo : (Tryd.prog.info? e).map (fun i => (i.zero, i.size, i.bytes)) = some (some z, n, bs)) (hzc : z.cells.size = n) (hn : 0 < n) (hbs : bs ≤ 200)
    (hgd : o.guard = none) (s x : Operand) (hop : o.op = Op.call { callee := Callee.builtin Builtin.append, args := #[s, x], argTypes := #[ST, ST] })
    (base : Nat) (v : Value) (L : List (List Value)) (hs : ac.eval s = v) (hown : OwnV w base e n v L) (b c : Nat) (cs : List Value) (hx : ac.eval x = .slice (some ⟨b, 0, none⟩) 1 c) (hcs : cs.length = n) (hnews : CellsAt w b 0 cs) (h1 : ∀ u ∈ cs, u.oneCell' = true) (hk : L.length ≤ 1000000) (hbase : base ≤ w.heap.size)
    (hK : ∀ g m' c' w', OwnV w' base e n (.slice (some ⟨g, 0, none⟩) m' c') (L ++ [cs]) → w.grownBy w' v.ownBlock → (v.ownBlock = some g ∨ g = w.heap.size) → K (ac.put o.dst (.slice (some ⟨g, 0, none⟩) m' c')) w') :
    if Region.wanted o (yielded ops ac.tmps) = true then Oper.wp Tryd.prog o ac w K Q else E := by
  obtain ⟨i0, hi, hz0, hz1, hz2⟩ := info_parts hinfo
  refine step_append_lies (P := Tryd.prog) w hgd s x ST hop base e i0 z n bs hu hi hz0 hz1 hz2 hzc hn v L.length L.flatten hs hown ⟨b, 0, none⟩ 1 c cs hx (by rw [hcs, Nat.one_mul]) (by
    intro j u hj
    have h2 := hnews j u hj
    rw [Nat.zero_add] at h2
    by_cases h0 : j = 0
    · subst h0; simpa [Addr.add] using h2
    · simpa [Addr.add, h0] using h2) h1 (by decide) (by unfold maxLen; omega) (by have : (L.length + 1) * bs ≤ 1000001 * 200 := Nat.mul_le_mul (by omega) hbs; omega) hbase w.heap.size rfl ?_
  intro g cap w' hO hg hl hlt
  refine hK g (L.length + 1) cap w' ?_ hg hl
  unfold OwnV
  rw [List.flatten_append, List.length_append]
  simpa using hO
theorem procsM_fine {T : List Tk} (ok : Tks.Ok T) (F : Nat) : ∀ (m : Nat) (l : List Pr) {i : Nat}, i < T.length → FineR0 T i (procsM (tks T) F m l i)
  | 0, l, i, hi => ⟨Nat.le_refl _, hi⟩
  | m + 1, l, i, hi => by
    unfold procsM
    split
    · exact ⟨Nat.le_refl _, hi⟩
    · exact fine_weak (bind_fine (proc_fine ok F hi) fun p j _ hj => procsM_fine ok F m _ hj)
def ProgsRel (w : World) (b3 gR gt cap : Nat) (T : List Tk) (F j0 : Nat) (p0 : Pr) (M : Nat) (wr : World) : Prop :=
  ∃ L vs j m ag mg cg, Hid (M = T.length - j) ∧ Box1 wr b3 (.slice ag mg cg) ∧ Box1 wr w.heap.size (.slice none 0 0) ∧ OwnV wr (w.heap.size + 1) 45 5 (.slice ag mg cg) vs ∧ (Value.slice ag mg cg).ownBlock ≠ some b3 ∧ PrsV wr (fun b => (w.heap.size + 1 ≤ b ∧ b ≠ b3) ∧ (Value.slice ag mg cg).ownBlock ≠ some b) L vs ∧
    RS wr gR gt cap T j 0 ∧ w.grownBy wr (some gR) ∧ j < T.length ∧ j0 ≤ j ∧ L.length ≤ j ∧ T.length ≤ j + m ∧ Hid (procsM (tks T) F F [p0] j0 = procsM (tks T) F m L j)
section
variable {T : List Tk}
set_option maxHeartbeats 6400000 in
theorem pprog_any (ok : Tks.Ok T) {F : Nat} (hF : T.length ≤ F) (w : World) (gR gt cap : Nat) (h : RS w gR gt cap T 0 0) :
    Calls Tryd.prog 13 #[.pointer (some ⟨gR, 0, none⟩)] w (ROut w gR gt cap T 0 (fun ok w' p v => PgV w' ok p v) (progR (tks T) F)) := by
  have hz := h.box.lt
  have hz2 := h.lt
  have HR0 := hid (h.below ((Below.refl _ _).alloc (Nat.le_refl _) (.cells #[.slice none 0 0] 25)))
  have HG0 := hid (grow_alloc (grow_refl w (some gR)) (.cells #[.slice none 0 0] 25))
  have HB0 := hid (Box1.new w (.slice none 0 0) 25)
  have HOK := hid ok
  have HFF := hid hF
  have HU0 : Hid (progR (tks T) F = (procR (tks T) F 0).bind fun p j => procsM (tks T) F F [p] j) := hid rfl
  have HC0 := hid (pproc_any ok hF _ gR gt cap 0 HR0.out ok.pos)
  have HCF := hid (proc_fine ok F ok.pos)
  have HCC := hid (fun W j (hh : RS W gR gt cap T j 0) (hj : j < T.length) => pproc_any ok hF W gR gt cap j hh hj)
  clear h ok hF
  generalize hq : procR (tks T) F 0 = q at *
  clear hq
  go_enter Tryd.func13, Tryd.ntmps13
  go_wp2_with fail
  refine HC0.out.mono ?_
  intro e w1 h1
  rcases rout_cases h1 with ⟨p0, j0, v, hr, rfl, ⟨ap, mp, cp, av, mv, cv, ab, mb, cb, rfl, hA1, hA2, hA3⟩, hr1, hg1⟩ | ⟨x, j, hr, hg, hg1⟩
  rotate_left
  · unfold Gone at hg
    subst hg
    subst hr
    refine ⟨rfl, ?_⟩
    rw [HU0.out]
    exact ⟨rfl, grow_trans HG0.out hg1⟩
  subst hr
  have HF1 : Hid (0 < j0 ∧ j0 < T.length) := HCF
  have HU1 : Hid (progR (tks T) F = procsM (tks T) F F [p0] j0) := hid (HU0.out.trans rfl)
  have hz1 : w.heap.size + 1 ≤ w1.heap.size := by have := hg1.size; simpa using this
  have hw2 : Below w1.heap.size w1 (w1.alloc (.cells #[.string (str p0.name), .slice ap mp cp, .string (str p0.result), .slice av mv cv, .slice ab mb cb] 45)) := (Below.refl _ _).alloc (Nat.le_refl _) _
  have hw3 : Below (w1.alloc (.cells #[.string (str p0.name), .slice ap mp cp, .string (str p0.result), .slice av mv cv, .slice ab mb cb] 45)).heap.size (w1.alloc (.cells #[.string (str p0.name), .slice ap mp cp, .string (str p0.result), .slice av mv cv, .slice ab mb cb] 45)) ((w1.alloc (.cells #[.string (str p0.name), .slice ap mp cp, .string (str p0.result), .slice av mv cv, .slice ab mb cb] 45)).alloc (.cells #[.slice (some ⟨w1.heap.size, 0, none⟩) 1 1] 25)) := (Below.refl _ _).alloc (Nat.le_refl _) _
  have hs3 : ((w1.alloc (.cells #[.string (str p0.name), .slice ap mp cp, .string (str p0.result), .slice av mv cv, .slice ab mb cb] 45)).alloc (.cells #[.slice (some ⟨w1.heap.size, 0, none⟩) 1 1] 25)).heap.size = w1.heap.size + 2 := by simp
  have HV3 : Hid (PrV ((w1.alloc (.cells #[.string (str p0.name), .slice ap mp cp, .string (str p0.result), .slice av mv cv, .slice ab mb cb] 45)).alloc (.cells #[.slice (some ⟨w1.heap.size, 0, none⟩) 1 1] 25)) (fun b => (w.heap.size + 1 ≤ b ∧ b ≠ w1.heap.size + 1) ∧ (Value.slice (some ⟨w1.heap.size, 0, none⟩) 1 1).ownBlock ≠ some b) p0 (.agg #[.string (str p0.name), .slice ap mp cp, .string (str p0.result), .slice av mv cv, .slice ab mb cb])) := hid (
    ((show PrV w1 _ p0 _ from ⟨ap, mp, cp, av, mv, cv, ab, mb, cb, rfl, hA1, hA2, hA3⟩).move (w' := (w1.alloc (.cells #[.string (str p0.name), .slice ap mp cp, .string (str p0.result), .slice av mv cv, .slice ab mb cb] 45)).alloc (.cells #[.slice (some ⟨w1.heap.size, 0, none⟩) 1 1] 25)) ⟨by rw [hs3]; omega, fun b hl hb => ⟨(hw3.block b (by simp; omega)).trans (hw2.block b hl), ⟨by simpa using hb, by omega⟩, by simp [Value.ownBlock]; omega⟩⟩))
  have HR3 := hid ((hr1.below hw2).below hw3)
  have HG3 := hid (grow_below (grow_below (grow_trans HG0.out hg1) hw2) hw3)
  have HP3 := hid (((HB0.out.grown hg1 (by simp; omega)).keep hw2).keep hw3)
  have HQ3 : Hid (Box1 ((w1.alloc (.cells #[.string (str p0.name), .slice ap mp cp, .string (str p0.result), .slice av mv cv, .slice ab mb cb] 45)).alloc (.cells #[.slice (some ⟨w1.heap.size, 0, none⟩) 1 1] 25)) (w1.heap.size + 1) (.slice (some ⟨w1.heap.size, 0, none⟩) 1 1)) := hid (by have := Box1.new (w1.alloc (.cells #[.string (str p0.name), .slice ap mp cp, .string (str p0.result), .slice av mv cv, .slice ab mb cb] 45)) (.slice (some ⟨w1.heap.size, 0, none⟩) 1 1) 25; rw [asize] at this; exact this)
  have HO3 := hid ((own_new w1 (w.heap.size + 1) 45 [.string (str p0.name), .slice ap mp cp, .string (str p0.result), .slice av mv cv, .slice ab mb cb] (by omega)).below hw3)
  clear h1 hA1 hA2 hA3 hr1 hg1 hw2 hw3 HU0 HC0
  go_wp2_with fail
  go_loopg [] (T.length - j0) (fun M wr => ProgsRel w (w1.heap.size + 1) gR gt cap T F j0 p0 M wr)
  case atStart => exact ⟨[p0], [[.string (str p0.name), .slice ap mp cp, .string (str p0.result), .slice av mv cv, .slice ab mb cb]], j0, F, _, _, _, hid rfl, HQ3.out, HP3.out, HO3.out, by simp [Value.ownBlock], ⟨⟨rfl, HV3.out⟩, trivial⟩, HR3.out, HG3.out, HF1.out.2, Nat.le_refl _, by have := HF1.out; simp; omega, by have := HFF.out; omega, hid rfl⟩
  case round =>
    obtain ⟨L, vs, j, m, ag, mg, cg, HM, hq, hp, hown, hnb, hall, hrr, hgr, hj, hjj, hLj, hm2, HMR⟩ := hrel
    obtain ⟨m', rfl⟩ : ∃ m', m = m' + 1 := ⟨m - 1, by omega⟩
    have HN := hid (pnext_any hrr hj)
    have HQr := hid hq
    have HPr := hid hp
    have HOr := hid hown
    have HNB := hid hnb
    have HLr := hid hall
    have HRr := hid hrr
    have HGr := hid hgr
    have HJ := hid hj
    have HJJ := hid hjj
    have HLJ := hid hLj
    have HM2 := hid hm2
    clear hq hp hown hnb hall hrr hgr hj hjj hLj hm2 HQ3 HP3 HO3 HV3 HR3 HG3 hs3
    by_cases k1 : (tks T j).k = 0
    · have hkk : (((tks T j).k : Int) == 0) = true := by simp; omega
      have HMR2 : Hid (procsM (tks T) F F [p0] j0 = .ok L j) := hid (HMR.out.trans (if_pos k1))
      clear k1 HMR
      go_wp2_with fail
      refine HN.out.mono ?_
      rintro e w5 ⟨rfl, hb5⟩
      have HR5 := hid (HRr.out.below hb5)
      have HG5 := hid (grow_below HGr.out hb5)
      have hq5 := HQr.out.keep hb5
      have HP5 := hid (HPr.out.keep hb5)
      have HO5 := hid (HOr.out.below hb5)
      have HL5 := hid (HLr.out.move (same_b hb5))
      have c0 := hq5.c
      have cl := hq5.lt
      have d0 := HP5.out.c
      have df := HP5.out.f
      have dl := HP5.out.lt
      clear hb5 hq5 HQr HPr HOr HLr HRr HGr
      go_wp2_with fail
      refine bodyPost_ret (res_prog _ rfl (HP5.out.set _)) rfl ?_
      rw [HU1.out, HMR2.out]
      have hmid : Mid w.heap.size (w.heap.size + 1) w5 (w5.setCell ⟨w.heap.size, 0, none⟩ (.slice ag mg cg)) := (Mid.refl _ _ _).set (Nat.le_refl _) (by omega) _
      obtain ⟨hRf, hGf⟩ := hmid.close HR5.out hz HG5.out
      have hpg : PgF w5 (fun b => w.heap.size + 1 ≤ b) ag mg cg L := ⟨vs, HO5.out.slf (HL5.out.len).2, HL5.out.move ⟨Nat.le_refl _, fun b _ hb => ⟨rfl, hb.1.1⟩⟩⟩
      exact ⟨⟨_, rfl, ag, mg, cg, rfl, hpg.move (hmid.same (by omega))⟩, hRf, hGf⟩
    · have hkk : (((tks T j).k : Int) == 0) = false := by simp; omega
      have HMR2 : Hid (procsM (tks T) F F [p0] j0 = (procR (tks T) F j).bind fun p l => procsM (tks T) F m' (L ++ [p]) l) := hid (HMR.out.trans (if_neg k1))
      have HCj := hid (fun W hh => HCC.out W j hh HJ.out)
      have HPF := hid (proc_fine HOK.out F HJ.out)
      clear k1 HMR
      generalize hqq : procR (tks T) F j = qq at *
      clear hqq
      go_wp2_with fail
      refine HN.out.mono ?_
      rintro e w5 ⟨rfl, hb5⟩
      have HR5 := hid (HRr.out.below hb5)
      have HG5 := hid (grow_below HGr.out hb5)
      have hq5 := HQr.out.keep hb5
      have HQ5 := hid hq5
      have HP5 := hid (HPr.out.keep hb5)
      have HO5 := hid (HOr.out.below hb5)
      have HL5 := hid (HLr.out.move (same_b hb5))
      have hbl := World.ownsRow.lt HO5.out
      have HBL := hid hbl
      have c0 := hq5.c
      have cl := hq5.lt
      clear hb5 hq5 HQr HPr HOr HLr HRr HGr hbl HN
      cases qq with
      | bad x l =>
        have HUF : Hid (progR (tks T) F = .bad x l) := hid (by rw [HU1.out, HMR2.out]; rfl)
        have HL6 : Hid (vs.length ≤ 1000000) := hid (by have := HL5.out.len.1; have := HLJ.out; have := HJ.out; have := HR5.out.len; omega)
        go_wp2_with fail
        go_region_law (first
          | (refine step_dead1 18 Tryd.func18 (by kernel_rfl) (by kernel_rfl) 54 (.pointer (some ⟨gR, 0, none⟩)) _ (.agg #[.string ⟨#[]⟩, .slice none 0 0, .string ⟨#[]⟩, .slice none 0 0, .slice none 0 0]) rfl (.tmp 14) rfl rfl (HCj.out w5.drew HR5.out.drew) (fun e w9 hx => ⟨_, hx.1, rfl, (by rw [HUF.out]; exact ⟨rfl, grow_trans (grow_drew HG5.out) hx.2⟩)⟩) ?_; intro hF; have HFx := hid hF; clear hF)
          | (refine step_append_vl 23 45 5 104 _ Tryd.underlying23 Tryd.infoPr rfl (by decide) (by decide) rfl (.tmp 13) (.tmp 16) rfl (w.heap.size + 1) _ vs rfl (OwnV.below (w := w5.drew) HO5.out ((Below.refl _ _).alloc (Nat.le_refl _) _)) w5.drew.heap.size 1 [.string ⟨#[]⟩, .slice none 0 0, .string ⟨#[]⟩, .slice none 0 0, .slice none 0 0] rfl rfl (cells5_new w5.drew _ _ _ _ _ _) HFx.out.elim HL6.out HFx.out.elim ?_; intro g7 m7 c7 w7 ho7 hg7 hl7; obtain ⟨t0, tf, tl⟩ : w7.cell? ⟨w1.heap.size + 1, 0, none⟩ = some (.slice ag mg cg) ∧ (∀ i, w7.frozen? ⟨w1.heap.size + 1, i, none⟩ = false) ∧ w1.heap.size + 1 < w7.heap.size := HFx.out.elim))
        all_goals exact HFx.out.elim
      | ok p1 l =>
        have HF5 : Hid (j < l ∧ l < T.length) := HPF
        have HMR3 : Hid (procsM (tks T) F F [p0] j0 = procsM (tks T) F m' (L ++ [p1]) l) := hid (HMR2.out.trans rfl)
        have HL6 : Hid (vs.length ≤ 1000000) := hid (by have := HL5.out.len.1; have := HLJ.out; have := HJ.out; have := HR5.out.len; omega)
        clear HMR2
        go_wp2_with fail
        go_region_law (first
          | (refine step_call1 18 Tryd.func18 (by kernel_rfl) (by kernel_rfl) 54 (.pointer (some ⟨gR, 0, none⟩)) _ rfl (.tmp 14) rfl rfl (HCj.out w5.drew HR5.out.drew) ?_; intro e w6 hx6; obtain ⟨⟨v6, he6, ap, mp, cp, av, mv, cv, ab, mb, cb, rfl, hA1, hA2, hA3⟩, hr6, hg6⟩ := hx6; refine ⟨_, he6, ?_⟩; have hq6 := Box1.grown (w := w5.drew) HQ5.out hg6 (by simp; omega); have HP6 := hid (Box1.grown (w := w5.drew) HP5.out hg6 (by simp; omega)); have HO6 := hid (OwnV.kept (w := w5.drew) HO5.out hg6 (by intro g e; simp at e; omega)); have HV6 := hid (show PrV w6 (fun b => w5.drew.heap.size ≤ b) p1 (.agg #[.string (str p1.name), .slice ap mp cp, .string (str p1.result), .slice av mv cv, .slice ab mb cb]) from ⟨ap, mp, cp, av, mv, cv, ab, mb, cb, rfl, hA1, hA2, hA3⟩); have HR6 := hid hr6; have HG6 := hid hg6; have s0 := hq6.c; have sl := hq6.lt; have HBS : Hid (w.heap.size + 1 ≤ (w6.alloc (.cells #[.string (str p1.name), .slice ap mp cp, .string (str p1.result), .slice av mv cv, .slice ab mb cb] 45)).heap.size) := hid (by have := hg6.size; have h4 : w5.drew.heap.size = w5.heap.size := rfl; have := HG5.out.size; simp; omega); clear he6 hA1 hA2 hA3 hr6 hg6)
          | (refine step_append_vl 23 45 5 104 _ Tryd.underlying23 Tryd.infoPr rfl (by decide) (by decide) rfl (.tmp 13) (.tmp 16) rfl (w.heap.size + 1) _ vs rfl (OwnV.below (w := w6) HO6.out ((Below.refl _ _).alloc (Nat.le_refl _) _)) w6.heap.size 1 [.string (str p1.name), .slice ap mp cp, .string (str p1.result), .slice av mv cv, .slice ab mb cb] rfl rfl (cells5_new w6 _ _ _ _ _ _) (by intro u hu; simp at hu; rcases hu with rfl | rfl | rfl | rfl | rfl <;> rfl) HL6.out HBS.out ?_; intro g7 m7 c7 w7 ho7 hg7 hl7; have hq7 := (hq6.alloc (.cells #[.string (str p1.name), .slice ap mp cp, .string (str p1.result), .slice av mv cv, .slice ab mb cb] 45)).grown hg7 (fun e => HNB.out e.symm); have t0 := hq7.c; have tf := hq7.f; have tl := hq7.lt))
        all_goals
          have h4 : w5.drew.heap.size = w5.heap.size := rfl
          have hw6 : Below w6.heap.size w6 (w6.alloc (.cells #[.string (str p1.name), .slice ap mp cp, .string (str p1.result), .slice av mv cv, .slice ab mb cb] 45)) := (Below.refl _ _).alloc (Nat.le_refl _) _
          have hs7 := hg7.size
          have hs6 := HG6.out.size
          have hsa : (w6.alloc (.cells #[.string (str p1.name), .slice ap mp cp, .string (str p1.result), .slice av mv cv, .slice ab mb cb] 45)).heap.size = w6.heap.size + 1 := by simp
          have hOL : ∀ g, (Value.slice ag mg cg).ownBlock = some g → w.heap.size + 1 ≤ g ∧ g < w5.heap.size := fun g e => HBL.out g e
          have hRne : ∀ b, b ≤ w.heap.size → some b ≠ (Value.slice ag mg cg).ownBlock := fun b hb e => by have := hOL b e.symm; omega
          have hg78 : ∀ b, b < w6.heap.size → some b ≠ (Value.slice ag mg cg).ownBlock → w7.heap[b]? = w6.heap[b]? := fun b hb hne => (hg7.block b (by omega) hne).trans (hw6.block b hb)
          have hR7 : RS w7 gR gt cap T l 0 := HR6.out.at (hg78 gt (by have := HR6.out.box.lt; omega) (hRne gt (by omega))) (HR6.out.box.at (hg78 gR HR6.out.box.lt (hRne gR (by omega))))
          have hP7 : Box1 w7 w.heap.size (.slice none 0 0) := by
            obtain ⟨Tt, hh⟩ := HP6.out
            exact ⟨Tt, (hg78 w.heap.size (Array.getElem?_eq_some_iff.1 hh).1 (hRne _ (Nat.le_refl _))).trans hh⟩
          have hnb7 : some (w1.heap.size + 1) ≠ some g7 := by
            intro e
            simp at e
            rcases hl7 with hl7 | hl7
            · exact HNB.out (hl7.trans (congrArg some e.symm))
            · omega
          have hsame : Same w6 w7 (fun b => (w.heap.size + 1 ≤ b ∧ b ≠ w1.heap.size + 1) ∧ (Value.slice ag mg cg).ownBlock ≠ some b) (fun b => (w.heap.size + 1 ≤ b ∧ b ≠ w1.heap.size + 1) ∧ (Value.slice (some ⟨g7, 0, none⟩) m7 c7).ownBlock ≠ some b) := ⟨by omega, fun b hb hk => ⟨hg78 b hb (Ne.symm hk.2), hk.1, by
            intro e
            simp [Value.ownBlock] at e
            rcases hl7 with hl7 | hl7
            · exact hk.2 (hl7.trans (congrArg some e))
            · omega⟩⟩
          have hset : Same w7 (w7.setCell ⟨w1.heap.size + 1, 0, none⟩ (.slice (some ⟨g7, 0, none⟩) m7 c7)) (fun b => (w.heap.size + 1 ≤ b ∧ b ≠ w1.heap.size + 1) ∧ (Value.slice (some ⟨g7, 0, none⟩) m7 c7).ownBlock ≠ some b) (fun b => (w.heap.size + 1 ≤ b ∧ b ≠ w1.heap.size + 1) ∧ (Value.slice (some ⟨g7, 0, none⟩) m7 c7).ownBlock ≠ some b) := same_s (g := w1.heap.size + 1) (c := 0) (u := .slice (some ⟨g7, 0, none⟩) m7 c7) (fun b hb => hb.1.2)
          have HL9 := hid (((PrsV.move (w := w5) (w' := w6) (ok' := fun b => (w.heap.size + 1 ≤ b ∧ b ≠ w1.heap.size + 1) ∧ (Value.slice ag mg cg).ownBlock ≠ some b) ⟨by omega, fun b hb hk => ⟨(show w6.heap[b]? = w5.heap[b]? from HG6.out.block b (by omega) (by simp; omega)), hk⟩⟩ HL5.out).move hsame).move hset)
          have HV9 := hid (((HV6.out.move (w' := w6) (ok' := fun b => (w.heap.size + 1 ≤ b ∧ b ≠ w1.heap.size + 1) ∧ (Value.slice ag mg cg).ownBlock ≠ some b) ⟨Nat.le_refl _, fun b hb hk => ⟨rfl, ⟨by have := HG5.out.size; omega, by omega⟩, fun e => by have := hOL b e; omega⟩⟩).move hsame).move hset)
          have HO9 := hid (show OwnV (w7.setCell ⟨w1.heap.size + 1, 0, none⟩ (.slice (some ⟨g7, 0, none⟩) m7 c7)) (w.heap.size + 1) 45 5 (.slice (some ⟨g7, 0, none⟩) m7 c7) (vs ++ [[.string (str p1.name), .slice ap mp cp, .string (str p1.result), .slice av mv cv, .slice ab mb cb]]) from by
            refine ⟨ho7.1, ?_⟩
            rcases ho7.2 with h1 | ⟨g, cap', cur, h1, hbg, h2, h3⟩
            · exact .inl h1
            · have e7 : g = g7 := by simp only [Value.slice.injEq, Option.some.injEq, Addr.mk.injEq] at h1; exact h1.1.1.symm
              exact .inr ⟨g, cap', cur, h1, hbg, (heap_setCell_other w7 ⟨w1.heap.size + 1, 0, none⟩ g _ (by intro e; apply hnb7; rw [← e7]; simp at e; rw [e])).trans h2, h3⟩)
          have HR9 := hid (hR7.new (b := w1.heap.size + 1) (c := 0) (by omega) (by omega) (.slice (some ⟨g7, 0, none⟩) m7 c7))
          have HP9 := hid (hP7.other (a := ⟨w1.heap.size + 1, 0, none⟩) (by simp; omega) (.slice (some ⟨g7, 0, none⟩) m7 c7))
          have HQ9 := hid (hq7.set (.slice (some ⟨g7, 0, none⟩) m7 c7))
          have HG9 : Hid (w.grownBy (w7.setCell ⟨w1.heap.size + 1, 0, none⟩ (.slice (some ⟨g7, 0, none⟩) m7 c7)) (some gR)) := hid (grow_new ⟨hg7.os.trans (hw6.os.trans (HG6.out.os.trans HG5.out.os)), hg7.tape.trans (hw6.tape.trans (HG6.out.tape.trans HG5.out.tape)), hg7.output.trans (hw6.output.trans (HG6.out.output.trans HG5.out.output)), by have := HG5.out.size; omega, fun k hk hne => by
            have h5 := HG5.out.size
            exact (hg78 k (by omega) (hRne k (by omega))).trans ((HG6.out.block k (by omega) hne).trans (HG5.out.block k hk hne))⟩ (by omega) 0 _)
          have HNB9 : Hid ((Value.slice (some ⟨g7, 0, none⟩) m7 c7).ownBlock ≠ some (w1.heap.size + 1)) := hid (fun e => hnb7 e.symm)
          clear hsame hset hnb7 hP7 hR7 hg78 hRne hq7 ho7 hg7 hl7 hw6 t0 tf s0 c0
          go_wp2_with fail
          go_roundg (T.length - l)
          case measure => have h1 := HF5.out; have h2 := HM.out; omega
          case rel => exact ⟨L ++ [p1], _, l, m', _, _, _, hid rfl, HQ9.out, HP9.out, HO9.out, HNB9.out, PrsV.snoc rfl HV9.out HL9.out, HR9.out, HG9.out, HF5.out.2, by have := HF5.out; have := HJJ.out; omega, by have := HF5.out; have := HLJ.out; simp; omega, by have := HF5.out; have := HM2.out; omega, HMR3⟩
end
end Go.Proofs.YtjofhaakkleecaaDoor
