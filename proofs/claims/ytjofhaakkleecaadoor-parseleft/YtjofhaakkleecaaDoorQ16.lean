/-
  Plain mathematics of statements: what is read goes on. Walks: statements in braces.
-/
import Derived.Test.YtjofhaakkleecaaDoorQ15
namespace Go.Proofs.YtjofhaakkleecaaDoor
open Go.RowKit Lx
set_option linter.unusedSimpArgs false
set_option linter.unusedVariables false
set_option maxRecDepth 100000

section
variable {T : List Tk}
theorem fine_up {α : Type} {i : Nat} {x : R α} (h : FineR T (i + 1) x) : FineR T i x := by
  cases x with
  | ok a j => exact ⟨by have := h.1; omega, h.2⟩
  | bad e j => exact h
theorem fine_up0 {α : Type} {i j : Nat} {x : R α} (hij : i < j) (h : FineR0 T j x) : FineR T i x := by
  cases x with
  | ok a j => exact ⟨by have := h.1; omega, h.2⟩
  | bad e j => exact h
theorem call_fine (ok : Tks.Ok T) (F d : Nat) (nm : List Nat) {i : Nat} (hi : i < T.length) : FineR T i (callR (tks T) F d nm i) :=
  bind_fine (name_fine ok hi) fun p j _ hj => bind_fine0 (fine_weak (list_fine ok F (fun i hi => expr_fine ok F d hi) hj)) fun l k _ hk => ok_fine0 hk
theorem plain_fine (ok : Tks.Ok T) (F d : Nat) {i : Nat} (hi : i < T.length) : FineR T i (plainR (tks T) F d i) := by
  unfold plainR
  split
  · rename_i h
    have hm := ok.more hi (by rw [h]; simp)
    exact fine_up (bind_fine (name_fine ok hm) fun x j _ hj => ok_fine0 hj)
  · split
    · rename_i h
      have hm := ok.more hi (by rw [h]; simp)
      exact fine_up (bind_fine (cond_fine ok F d hm) fun x j _ hj => ok_fine0 hj)
    · split
      · rename_i h
        have hm := ok.more hi (by rw [h]; simp)
        exact fine_up (bind_fine (cond_fine ok F d hm) fun x j _ hj => ok_fine0 hj)
      · split
        · rename_i h
          have hm := ok.more hi (by rw [h]; simp)
          exact ⟨Nat.lt_succ_self _, hm⟩
        · split
          · exact call_fine ok F d [] hi
          · refine bind_fine (name_fine ok hi) fun x j _ hj => ?_
            split
            · rename_i h
              have hm := ok.more hj (by rw [h]; simp)
              split
              · exact fine_weak (fine_up (call_fine ok F d x hm))
              · exact fine_weak (fine_up (bind_fine (expr_fine ok F d hm) fun e k _ hk => ok_fine0 hk))
            · exact hj
theorem stmtsM_fine (ok : Tks.Ok T) {st : Nat → R St} (ho : ∀ i, i < T.length → FineR T i (st i)) : ∀ (m : Nat) (l : List St) {i : Nat}, i < T.length → FineR T i (stmtsM (tks T) st m l i)
  | 0, l, i, hi => hi
  | m + 1, l, i, hi => by
    unfold stmtsM
    split
    · rename_i h
      exact ⟨Nat.lt_succ_self _, ok.more hi (by rw [h]; simp)⟩
    · exact bind_fine (ho i hi) fun s j _ hj => fine_weak (stmtsM_fine ok ho m (l ++ [s]) hj)
theorem block_fine (ok : Tks.Ok T) (F : Nat) {st : Nat → R St} (ho : ∀ i, i < T.length → FineR T i (st i)) (d : Nat) {i : Nat} (hi : i < T.length) : FineR T i (blockR (tks T) F st d i) := by
  unfold blockR openR
  split
  · rename_i h
    split
    · exact hi
    · exact fine_up (stmtsM_fine ok ho F [] (ok.more hi (by rw [h]; simp)))
  · exact hi
theorem choice_fine (ok : Tks.Ok T) (F d : Nat) {st : Nat → R St} (ho : ∀ i, i < T.length → FineR T i (st i)) {i : Nat} (hi : i < T.length) : FineR T i (choiceR (tks T) F d st i) := by
  refine bind_fine (cond_fine ok F d hi) fun e j _ hj => bind_fine0 (fine_weak (block_fine ok F ho d hj)) fun b k _ hk => ?_
  split
  · rename_i h
    have hm := ok.more hk (by rw [h]; simp)
    exact fine_weak (fine_up (bind_fine (block_fine ok F ho d hm) fun c l _ hl => ok_fine0 hl))
  · exact ok_fine0 hk
theorem st_fine (ok : Tks.Ok T) (F : Nat) : ∀ (n d : Nat) {i : Nat}, i < T.length → FineR T i (stR (tks T) F n d i)
  | 0, d, i, hi => hi
  | n + 1, d, i, hi => by
    have ih := fun i hi => st_fine ok F n (d + 1) (i := i) hi
    unfold stR
    split
    · rename_i h
      exact fine_up (choice_fine ok F d ih (ok.more hi (by rw [h]; simp)))
    · split
      · rename_i h
        have hm := ok.more hi (by rw [h]; simp)
        exact fine_up (bind_fine (cond_fine ok F d hm) fun e j _ hj => bind_fine0 (fine_weak (block_fine ok F ih d hj)) fun b k _ hk => ok_fine0 hk)
      · split
        · rename_i h
          have hm := ok.more hi (by rw [h]; simp)
          exact fine_up (bind_fine (block_fine ok F ih d hm) fun b j _ hj => bind_fine0 (fine_weak (take_fine ok (by simp) () hj)) fun _ k _ hk => bind_fine0 (fine_weak (block_fine ok F ih d hk)) fun c l _ hl => ok_fine0 hl)
        · exact bind_fine (plain_fine ok F d hi) fun s j _ hj => fine_weak (take_fine ok (by simp) s hj)
end

theorem Tryd.infoSt : (Tryd.prog.info? 48).map (fun i => (i.zero, i.size, i.bytes)) = some (some (.agg #[.int .i64 0, .string ⟨#[]⟩, .string ⟨#[]⟩, .slice none 0 0, .slice none 0 0, .slice none 0 0, .slice none 0 0]), 7, 136) := by kernel_rfl
/-- What stmt does, by so many tokens left at most. -/
def SC (T : List Tk) (d n : Nat) (st : Nat → R St) : Prop :=
  ∀ (w : World) (gR gt cap i : Nat), RS w gR gt cap T i d → i < T.length → T.length ≤ i + n → Calls Tryd.prog 39 #[.pointer (some ⟨gR, 0, none⟩)] w (ROut w gR gt cap T d (fun ok w' s v => StV w' ok s v) (st i))
theorem stsv_len {w : World} {ok : Nat → Prop} : ∀ (L : List St) (vs : List (List Value)), StsV w ok L vs → vs.length = L.length ∧ ∀ c ∈ vs, c.length = 7
  | [], vs, h => by unfold StsV at h; subst h; simp
  | s :: L, vs, h => by
    unfold StsV at h
    obtain ⟨c, r, e, hc, h1, h2⟩ := h
    subst e
    obtain ⟨a, b⟩ := stsv_len L r h2
    refine ⟨by simp [a], fun x hx => ?_⟩
    rcases List.mem_cons.1 hx with rfl | hx
    · exact hc
    · exact b x hx
theorem cells7_new (w : World) (T : TypeId) (a b c d e f g : Value) : CellsAt (w.alloc (.cells #[a, b, c, d, e, f, g] T)) w.heap.size 0 [a, b, c, d, e, f, g] := by
  intro j u hu
  have e' := cell_of_row (w.alloc (.cells #[a, b, c, d, e, f, g] T)) w.heap.size j #[a, b, c, d, e, f, g] _ _ (heap_alloc_new w _)
  rw [Nat.zero_add, e', ← hu]
  simp
/-- What stands at the head of a round. -/
def StsRel (w : World) (gR gt cap : Nat) (T : List Tk) (d F : Nat) (st : Nat → R St) (j0 : Nat) (M : Nat) (lv : Value) (wr : World) : Prop :=
  ∃ L vs j m ao mm cc, lv = .slice ao mm cc ∧ Hid (M = T.length - j) ∧ OwnV wr w.heap.size 48 7 lv vs ∧ StsV wr (fun b => w.heap.size ≤ b ∧ lv.ownBlock ≠ some b) L vs ∧ RS wr gR gt cap T j d ∧ w.grownBy wr (some gR) ∧ j < T.length ∧ j0 ≤ j ∧ L.length ≤ j ∧ T.length ≤ j + m ∧ Hid (stmtsM (tks T) st F [] j0 = stmtsM (tks T) st m L j)
section
variable {T : List Tk}
set_option maxHeartbeats 1600000 in
theorem pstmts_any (ok : Tks.Ok T) {F d n : Nat} (hF : T.length ≤ F) {st : Nat → R St} (HC : SC T d n st) (hst : ∀ i, i < T.length → FineR T i (st i)) (w : World) (gR gt cap i : Nat) (h : RS w gR gt cap T i d) (hi : i < T.length) (hn : T.length ≤ i + n) :
    Calls Tryd.prog 29 #[.pointer (some ⟨gR, 0, none⟩)] w (ROut w gR gt cap T d (fun ok w' L v => SsV w' ok L v) (stmtsM (tks T) st F [] i)) := by
  have HOK := hid ok
  have HCC : Hid (∀ W j, RS W gR gt cap T j d → j < T.length → i ≤ j → Calls Tryd.prog 39 #[.pointer (some ⟨gR, 0, none⟩)] W (ROut W gR gt cap T d (fun ok w' s v => StV w' ok s v) (st j))) := hid fun W j hh hj hij => HC W gR gt cap j hh hj (by omega)
  have HO := hid hst
  have HFF := hid hF
  have HS := hid h
  have HI := hid hi
  have hz := h.box.lt
  clear h hi hn HC hst ok hF
  go_enter Tryd.func29, Tryd.ntmps29
  go_wp2_with fail
  go_loopg [3] (T.length - i) (fun M lv wr => StsRel w gR gt cap T d F st i M lv wr)
  case atStart => exact ⟨[], [], i, F, none, 0, 0, rfl, hid rfl, ownV_nil _ _ _ _, by unfold StsV; rfl, HS.out, grow_refl _ _, HI.out, Nat.le_refl _, Nat.zero_le _, by have := HFF.out; omega, hid rfl⟩
  case round =>
    obtain ⟨L, vs, j, m, ao, mm, cc, rfl, HM, hown, hall, hrs, hgr, hj, hjj, hLj, hm2, HMR⟩ := hrel
    obtain ⟨m', rfl⟩ : ∃ m', m = m' + 1 := ⟨m - 1, by omega⟩
    by_cases k3 : (tks T j).t = [125]
    · have HT3 := hid (ptakes_yes hrs HOK.out hj (u := [125]) (by simp) k3)
      have HMR2 : Hid (stmtsM (tks T) st F [] i = .ok L (j + 1)) := hid (HMR.out.trans (if_pos k3))
      have HOWj := hid hown
      have HALj := hid hall
      have HGj := hid hgr
      clear hown hall hrs hgr hjj hLj hm2 HMR k3 hj HS
      go_wp2_with fail
      refine HT3.out.mono ?_
      rintro e w5 ⟨rfl, hr5, hg5⟩
      have HG5 := hid (grow_trans HGj.out hg5)
      have HOW5 := hid (HOWj.out.kept hg5 (by intro g e; simp at e; omega))
      have HAL5 := hid (stsv_move (ok' := fun b => w.heap.size ≤ b) ⟨hg5.size, fun b hb hk => ⟨hg5.block b hb (by simp; omega), hk.1⟩⟩ _ _ HALj.out)
      have HR5 := hid hr5
      clear hg5 hr5
      go_wp2_with fail
      go_ret
      rw [HMR2.out]
      exact ⟨⟨_, rfl, _, _, _, rfl, vs, HOW5.out.slf (stsv_len L vs HAL5.out).2, HAL5.out⟩, HR5.out, HG5.out⟩
    · have HT3 := hid (ptakes_no hrs HOK.out hj (u := [125]) (by simp) k3)
      have HMR2 : Hid (stmtsM (tks T) st F [] i = (st j).bind fun s l => stmtsM (tks T) st m' (L ++ [s]) l) := hid (HMR.out.trans (if_neg k3))
      have HONj := hid (HO.out j hj)
      have HCj := hid (fun W hh => HCC.out W j hh hj hjj)
      have HOWj := hid hown
      have HALj := hid hall
      have HGj := hid hgr
      have HA1 := hid hjj
      have HA2 := hid hLj
      have HA3 := hid hm2
      have HJ := hid hj
      clear hown hall hrs hgr hjj hLj hm2 HMR k3 hj HS
      generalize hq2 : st j = q2 at *
      clear hq2
      go_wp2_with fail
      refine HT3.out.mono ?_
      rintro e w5 ⟨rfl, hr5, hb5⟩
      have HG5 := hid (grow_below HGj.out hb5)
      have HOW5 := hid (HOWj.out.below hb5)
      have HAL5 := hid (stsv_move (ok' := fun b => w.heap.size ≤ b ∧ (Value.slice ao mm cc).ownBlock ≠ some b) ⟨hb5.size, fun b hb hk => ⟨hb5.block b hb, hk⟩⟩ _ _ HALj.out)
      clear hb5
      go_wp2_with fail
      refine (HCj.out _ hr5).mono ?_
      intro e w6 h6
      rcases rout_cases h6 with ⟨a1, j1, v1, hr, rfl, hv, hr6, hg6⟩ | ⟨x1, j1, hr, hg, hg6⟩
      · subst hr
        have HON3 : Hid (j < j1 ∧ j1 < T.length) := HONj
        have HMR3 : Hid (stmtsM (tks T) st F [] i = stmtsM (tks T) st m' (L ++ [a1]) j1) := hid (HMR2.out.trans rfl)
        have HG6 := hid (grow_trans HG5.out hg6)
        have hbl := World.ownsRow.lt HOW5.out
        have HOW6 := hid (HOW5.out.kept hg6 (by intro g e; simp at e; omega))
        have HAL6 := hid (stsv_move (same_read hg6 hz) _ _ HAL5.out)
        obtain ⟨kk, n1, n2, ae, aa, ab, al, me, ce, ma, ca, mb, cb, ml, cl, rfl⟩ := stv_form hv
        have HV1 := hid (stv_move (ok' := fun b => w.heap.size ≤ b ∧ (Value.slice ao mm cc).ownBlock ≠ some b) ⟨Nat.le_refl _, fun b hb hk => ⟨rfl, by have := HG5.out.size; omega, fun e => by have := hbl b e; omega⟩⟩ _ _ hv)
        have hw7 : Below w6.heap.size w6 (w6.alloc (.cells #[.int .i64 (kk : Int), .string n1, .string n2, .slice ae me ce, .slice aa ma ca, .slice ab mb cb, .slice al ml cl] 48)) := (Below.refl _ _).alloc (Nat.le_refl _) _
        have HR7 := hid (hr6.below hw7)
        have HG7 := hid (grow_below HG6.out hw7)
        have HOW7 := hid (HOW6.out.below hw7)
        have hsw : Same w6 (w6.alloc (.cells #[.int .i64 (kk : Int), .string n1, .string n2, .slice ae me ce, .slice aa ma ca, .slice ab mb cb, .slice al ml cl] 48)) (fun b => w.heap.size ≤ b ∧ (Value.slice ao mm cc).ownBlock ≠ some b) (fun b => w.heap.size ≤ b ∧ (Value.slice ao mm cc).ownBlock ≠ some b) := ⟨hw7.size, fun b hb hk => ⟨hw7.block b hb, hk⟩⟩
        have HAL7 := hid (stsv_move hsw _ _ HAL6.out)
        have HV7 := hid (stv_move hsw _ _ HV1.out)
        have HNW := hid (cells7_new w6 48 (.int .i64 (kk : Int)) (.string n1) (.string n2) (.slice ae me ce) (.slice aa ma ca) (.slice ab mb cb) (.slice al ml cl))
        have HVL : Hid (vs.length ≤ 1000000) := hid (by have := (stsv_len _ _ HAL7.out).1; have := HA2.out; have := HJ.out; have := HR7.out.len; omega)
        have HBS : Hid (w.heap.size ≤ (w6.alloc (.cells #[.int .i64 (kk : Int), .string n1, .string n2, .slice ae me ce, .slice aa ma ca, .slice ab mb cb, .slice al ml cl] 48)).heap.size) := hid HG7.out.size
        have HOL : Hid (∀ g, (Value.slice ao mm cc).ownBlock = some g → w.heap.size ≤ g ∧ g < w6.heap.size) := hid (fun g e => World.ownsRow.lt HOW6.out g e)
        clear h6 hr5 hr6 hg6 hv hbl hw7 hsw HOW5 HAL5 HOW6 HAL6 HV1 HCj HT3 HG5 HGj HOWj HALj
        go_wp2_with (at_builtin; go_must (refine wpList_append_vl 43 48 7 136 _ Tryd.underlying43 Tryd.infoSt rfl (by decide) (by decide) rfl (.tmp 7) (.tmp 10) rfl w.heap.size _ vs rfl HOW7.out w6.heap.size 1 [.int .i64 (kk : Int), .string n1, .string n2, .slice ae me ce, .slice aa ma ca, .slice ab mb cb, .slice al ml cl] rfl rfl HNW.out (by intro u hu; simp at hu; rcases hu with rfl | rfl | rfl | rfl | rfl | rfl | rfl <;> rfl) HVL.out HBS.out ?_); intro g7 m7 c7 w7 hown7 hg7 hl7; have HOW8 := hid hown7; have HG8 := hid hg7; have HL8 := hid hl7; clear hown7 hg7 hl7)
        go_roundg (T.length - j1)
        case measure => have h1 := HON3.out; have h2 := HM.out; omega
        case rel =>
          have hsa := same_app (B := w.heap.size) HG8.out HL8.out
          have hRne : ∀ b, b < w.heap.size → some b ≠ (Value.slice ao mm cc).ownBlock := fun b hb e => by have := HOL.out b e.symm; omega
          have hzb := HR7.out.box.lt
          have hlt2 := HR7.out.lt
          have hzs := HBS.out
          have hsa2 : Same _ w7 (fun b => w.heap.size ≤ b ∧ (Value.slice ao mm cc).ownBlock ≠ some b) (fun b => w.heap.size ≤ b ∧ (Value.slice (some ⟨g7, 0, none⟩) m7 c7).ownBlock ≠ some b) := ⟨hsa.1, fun b hb hk => ⟨(hsa.2 b hb hk).1, (hsa.2 b hb hk).2.1, fun e => (hsa.2 b hb hk).2.2 (by simpa [Value.ownBlock] using e)⟩⟩
          refine ⟨L ++ [a1], vs ++ [[.int .i64 (kk : Int), .string n1, .string n2, .slice ae me ce, .slice aa ma ca, .slice ab mb cb, .slice al ml cl]], j1, m', _, _, _, rfl, hid rfl, HOW8.out, stsv_snoc rfl (stv_move hsa2 _ _ HV7.out) _ _ (stsv_move hsa2 _ _ HAL7.out), ?_, ?_, HON3.out.2, by have := HON3.out; have := HA1.out; omega, by have := HON3.out; have := HA2.out; simp; omega, by have := HON3.out; have := HA3.out; omega, HMR3⟩
          · exact HR7.out.at (HG8.out.block gt (by omega) (hRne gt (by omega))) (HR7.out.box.at (HG8.out.block gR hzb (hRne gR hz)))
          · exact ⟨HG8.out.os.trans HG7.out.os, HG8.out.tape.trans HG7.out.tape, HG8.out.output.trans HG7.out.output, Nat.le_trans HG7.out.size HG8.out.size, fun k hk hne => (HG8.out.block k (Nat.lt_of_lt_of_le hk HG7.out.size) (hRne k hk)).trans (HG7.out.block k hk hne)⟩
      · unfold Gone at hg
        subst hg
        subst hr
        refine ⟨rfl, ?_⟩
        rw [HMR2.out]
        exact ⟨rfl, grow_trans HG5.out hg6⟩
/-- A block: in braces, one deeper. -/
theorem pblock_any (ok : Tks.Ok T) {F d n : Nat} (hF : T.length ≤ F) {st : Nat → R St} (HC : d ≠ 50 → SC T (d + 1) n st) (hst : ∀ i, i < T.length → FineR T i (st i)) (w : World) (gR gt cap i : Nat) (h : RS w gR gt cap T i d) (hd : d ≤ 50) (hi : i < T.length) (hn : T.length ≤ i + 1 + n) :
    Calls Tryd.prog 46 #[.pointer (some ⟨gR, 0, none⟩)] w (ROut w gR gt cap T d (fun ok w' L v => SsV w' ok L v) (blockR (tks T) F st d i)) := by
  by_cases k1 : (tks T i).t = [123]
  · by_cases hd5 : d = 50
    · have HP := hid (popen_deep h ok hi (u := [123]) (by simp) k1 hd5)
      have HU : Hid (blockR (tks T) F st d i = .bad 5 i) := hid ((if_pos k1).trans (if_pos hd5))
      clear h k1 hd5 HC hst ok hF hi hn
      go_enter Tryd.func46, Tryd.ntmps46
      go_wp2_with fail
      refine HP.out.mono ?_
      rintro e w1 ⟨hg, hb1⟩
      unfold Gone at hg
      subst hg
      refine ⟨rfl, ?_⟩
      rw [HU.out]
      exact ⟨rfl, grow_below (grow_refl _ _) hb1⟩
    · have hm := ok.more hi (by rw [k1]; simp)
      have HP := hid (popen_yes h ok hi (u := [123]) (by simp) k1 hd5 hd)
      have HU : Hid (blockR (tks T) F st d i = stmtsM (tks T) st F [] (i + 1)) := hid ((if_pos k1).trans (if_neg hd5))
      have HS := hid (fun W (hh : RS W gR gt cap T (i + 1) (d + 1)) => pstmts_any ok hF (HC hd5) hst W gR gt cap (i + 1) hh hm hn)
      have hz := h.box.lt
      clear h k1 HC hst ok hF hi hn
      generalize hq : stmtsM (tks T) st F [] (i + 1) = q at *
      clear hq
      go_enter Tryd.func46, Tryd.ntmps46
      go_wp2_with fail
      refine HP.out.mono ?_
      rintro e w1 ⟨rfl, hr1, hg1⟩
      go_wp2_with fail
      refine (HS.out _ hr1).mono ?_
      intro e w2 h2
      rcases rout_cases h2 with ⟨L, j, v, hr, rfl, ⟨ao, m, c, rfl, hv⟩, hr2, hg2⟩ | ⟨x, j, hr, hg, hg2⟩
      · have HRR := hid hr
        have HV := hid hv
        have HG2 := hid (grow_trans hg1 hg2)
        have HR2 := hid hr2
        have hz2 : w.heap.size ≤ w1.heap.size := hg1.size
        have HZ2 := hid hz2
        clear h2 hr hv hg1 hg2 hr1 hr2 hz2
        go_wp2_with fail
        refine (pshut_any HR2.out hd).mono ?_
        rintro e w3 ⟨rfl, hr3, hg3⟩
        have HR3 := hid hr3
        have HG3 := hid (grow_trans HG2.out hg3)
        have HV3 := hid (HV.out.move (ok' := fun b => w.heap.size ≤ b) ⟨hg3.size, fun b hb hk => ⟨hg3.block b hb (by have := HZ2.out; simp; omega), by have := HZ2.out; omega⟩⟩)
        clear hr3 hg3
        go_wp2_with fail
        go_ret
        rw [HU.out, HRR.out]
        exact ⟨⟨_, rfl, ao, m, c, rfl, HV3.out⟩, HR3.out, HG3.out⟩
      · unfold Gone at hg
        subst hg
        subst hr
        refine ⟨rfl, ?_⟩
        rw [HU.out]
        exact ⟨rfl, grow_trans hg1 hg2⟩
  · have HP := hid (popen_no h ok hi (u := [123]) (by simp) k1)
    have HU : Hid (blockR (tks T) F st d i = .bad 4 i) := hid (if_neg k1)
    clear h k1 HC hst ok hF hi hn
    go_enter Tryd.func46, Tryd.ntmps46
    go_wp2_with fail
    refine HP.out.mono ?_
    rintro e w1 ⟨hg, hb1⟩
    unfold Gone at hg
    subst hg
    refine ⟨rfl, ?_⟩
    rw [HU.out]
    exact ⟨rfl, grow_below (grow_refl _ _) hb1⟩
end
end Go.Proofs.YtjofhaakkleecaaDoor
