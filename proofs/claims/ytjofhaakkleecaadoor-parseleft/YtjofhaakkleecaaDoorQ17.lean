/-
  Walks: if and else.
-/
import Derived.Test.YtjofhaakkleecaaDoorQ16
namespace Go.Proofs.YtjofhaakkleecaaDoor
open Go.RowKit Lx
set_option linter.unusedSimpArgs false
set_option linter.unusedVariables false
set_option maxRecDepth 100000

theorem res_choice {W : World} {g : Nat} {y0 y1 y2 y3 y4 y5 y6 : Value} (tmps : Array Value) (hg : tmps[2]? = some (.pointer (some ⟨g, 0, none⟩))) (h : Box7 W g y0 y1 y2 y3 y4 y5 y6) : (results Tryd.f44 tmps).run Tryd.prog W = .ok (.agg #[y0, y1, y2, y3, y4, y5, y6]) W := by
  obtain ⟨c0, c1, c2, c3, c4, c5, c6⟩ := h.c
  simp [results, Tryd.results44, go_sem, hg, c0, c1, c2, c3, c4, c5, c6]
theorem res_stmt {W : World} {g : Nat} {y0 y1 y2 y3 y4 y5 y6 : Value} (tmps : Array Value) (hg : tmps[2]? = some (.pointer (some ⟨g, 0, none⟩))) (h : Box7 W g y0 y1 y2 y3 y4 y5 y6) : (results Tryd.f39 tmps).run Tryd.prog W = .ok (.agg #[y0, y1, y2, y3, y4, y5, y6]) W := by
  obtain ⟨c0, c1, c2, c3, c4, c5, c6⟩ := h.c
  simp [results, Tryd.results39, go_sem, hg, c0, c1, c2, c3, c4, c5, c6]
section
variable {w w' : World} {ok : Nat → Prop}
theorem same_b (hb : Below w.heap.size w w') : Same w w' ok ok := ⟨hb.size, fun b hl h => ⟨hb.block b hl, h⟩⟩
theorem same_g {gR : Nat} (hg : w.grownBy w' (some gR)) (hne : ∀ b, ok b → b ≠ gR) : Same w w' ok ok := ⟨hg.size, fun b hl h => ⟨hg.block b hl (by have := hne b h; simpa using this), h⟩⟩
theorem same_s {g c : Nat} {u : Value} (hne : ∀ b, ok b → b ≠ g) : Same w (w.setCell ⟨g, c, none⟩ u) ok ok := ⟨by simp [World.setCell], fun b _ h => ⟨heap_setCell_other w ⟨g, c, none⟩ b u (by have := hne b h; simpa using this), h⟩⟩
end
section
variable {T : List Tk}
set_option maxHeartbeats 1600000 in
theorem pchoice_any (ok : Tks.Ok T) {F d n : Nat} (hF : T.length ≤ F) {st : Nat → R St} (HC : d ≠ 50 → SC T (d + 1) n st) (hst : ∀ i, i < T.length → FineR T i (st i)) (w : World) (gR gt cap i : Nat) (h : RS w gR gt cap T i d) (hd : d ≤ 50) (hi : i < T.length) (hn : T.length ≤ i + n) :
    Calls Tryd.prog 44 #[.pointer (some ⟨gR, 0, none⟩)] w (ROut w gR gt cap T d (fun ok w' s v => StV w' ok s v) (choiceR (tks T) F d st i)) := by
  have hz := h.box.lt
  have hz2 := h.lt
  have HC0 := hid (pcond_any ok hF (h.below ((Below.refl _ _).alloc (Nat.le_refl _) (.cells #[.int .i64 0, .string ⟨#[]⟩, .string ⟨#[]⟩, .slice none 0 0, .slice none 0 0, .slice none 0 0, .slice none 0 0] 48))) hd hi)
  have HCF := hid (cond_fine ok F d hi)
  have HB := hid (fun W j (hh : RS W gR gt cap T j d) (hj : j < T.length) (hij : i ≤ j) => pblock_any ok hF HC hst W gR gt cap j hh hd hj (by omega))
  have HBF := hid (fun j (hj : j < T.length) => block_fine ok F hst d hj)
  have HU0 : Hid (choiceR (tks T) F d st i = (condR (tks T) F d i).bind fun e j => (blockR (tks T) F st d j).bind fun b k =>
    if (tks T k).t = [101, 108, 115, 101] then (blockR (tks T) F st d (k + 1)).bind fun c l => .ok (.mk 5 [] [] e [] b c) l else .ok (.mk 5 [] [] e [] b []) k) := hid rfl
  have HOK := hid ok
  have hbx0 := Box7.new w (.int .i64 0) (.string ⟨#[]⟩) (.string ⟨#[]⟩) (.slice none 0 0) (.slice none 0 0) (.slice none 0 0) (.slice none 0 0) 48
  have HBX0 := hid hbx0
  clear h HC hst ok hF hi hn hbx0
  generalize hq : condR (tks T) F d i = q at *
  clear hq
  go_enter Tryd.func44, Tryd.ntmps44
  go_wp2_with fail
  refine HC0.out.mono ?_
  intro e w1 h1
  rcases rout_cases h1 with ⟨ec, j, v, hr, rfl, ⟨ao1, m1, c1, rfl, hv1⟩, hr1, hg1⟩ | ⟨x, j, hr, hg, hg1⟩
  · subst hr
    have HF1 : Hid (i < j ∧ j < T.length) := HCF
    have HBk := hid HB.out
    have HBj := hid (fun W hh => HB.out W j hh HF1.out.2 (Nat.le_of_lt HF1.out.1))
    have HBFj := hid (HBF.out j HF1.out.2)
    have HU1 : Hid (choiceR (tks T) F d st i = (blockR (tks T) F st d j).bind fun b k =>
      if (tks T k).t = [101, 108, 115, 101] then (blockR (tks T) F st d (k + 1)).bind fun c l => .ok (.mk 5 [] [] ec [] b c) l else .ok (.mk 5 [] [] ec [] b []) k) := hid (HU0.out.trans rfl)
    have hz1 : w.heap.size + 1 ≤ w1.heap.size := by have := hg1.size; simpa using this
    have HG1 := hid (grow_trans (grow_alloc (grow_refl w (some gR)) _) hg1)
    have hw2 : Below w1.heap.size w1 (w1.alloc (.cells #[.int .i64 5, .string ⟨#[]⟩, .string ⟨#[]⟩, .slice ao1 m1 c1, .slice none 0 0, .slice none 0 0, .slice none 0 0] 48)) := (Below.refl _ _).alloc (Nat.le_refl _) _
    have HR2 := hid (hr1.below hw2)
    have HG2 := hid (grow_below HG1.out hw2)
    have HP2 := hid ((HBX0.out.grown hg1 (by simp; omega)).keep hw2)
    have HQ2 := hid (Box7.new w1 (.int .i64 5) (.string ⟨#[]⟩) (.string ⟨#[]⟩) (.slice ao1 m1 c1) (.slice none 0 0) (.slice none 0 0) (.slice none 0 0) 48)
    have HE2 := hid (SlF.move (SlF.move hv1 (ok' := fun b => w.heap.size + 1 ≤ b ∧ b ≠ w1.heap.size) ⟨Nat.le_refl _, fun b hl hb => ⟨rfl, by simpa using hb, by omega⟩⟩) (same_b hw2))
    have HZ2 : Hid ((w1.alloc (.cells #[.int .i64 5, .string ⟨#[]⟩, .string ⟨#[]⟩, .slice ao1 m1 c1, .slice none 0 0, .slice none 0 0, .slice none 0 0] 48)).heap.size = w1.heap.size + 1) := hid (by simp)
    clear h1 hv1 hr1 hg1 hw2 HU0 HB HC0
    generalize hq2 : blockR (tks T) F st d j = q2 at *
    clear hq2
    go_wp2_with fail
    refine (HBj.out _ HR2.out).mono ?_
    intro e w3 h3
    rcases rout_cases h3 with ⟨bd, k, v, hr, rfl, ⟨ao2, m2, c2, rfl, hv2⟩, hr3, hg3⟩ | ⟨x, k, hr, hg, hg3⟩
    · subst hr
      have HF3 : Hid (j < k ∧ k < T.length) := HBFj
      have HU2 : Hid (choiceR (tks T) F d st i = if (tks T k).t = [101, 108, 115, 101] then (blockR (tks T) F st d (k + 1)).bind fun c l => .ok (.mk 5 [] [] ec [] bd c) l else .ok (.mk 5 [] [] ec [] bd []) k) := hid (HU1.out.trans rfl)
      have hz3 : w1.heap.size + 1 ≤ w3.heap.size := by have := hg3.size; have := HZ2.out; omega
      have HP3 := hid (HP2.out.grown hg3 (by simp; omega))
      have hq3 := HQ2.out.grown hg3 (by simp; omega)
      obtain ⟨q0, q1, q2, q3, q4, q5, q6⟩ := hq3.c
      have qf := hq3.f
      have ql := hq3.lt
      have HG3 := hid (grow_trans HG2.out hg3)
      have HR4 := hid ((hr3.new (b := w1.heap.size) (c := 5) (by omega) (by omega) (.slice ao2 m2 c2)))
      have HG4 := hid (grow_new HG3.out (b := w1.heap.size) (by omega) 5 (.slice ao2 m2 c2))
      have HP4 := hid (HP3.out.other (b := w1.heap.size) (c := 5) (by omega) (.slice ao2 m2 c2))
      have HQ4 := hid (hq3.set5 (.slice ao2 m2 c2))
      have HE4 := hid (SlF.move (SlF.move HE2.out (same_g hg3 (fun b hb => by omega))) (same_s (g := w1.heap.size) (c := 5) (u := .slice ao2 m2 c2) (fun b hb => hb.2)))
      have HV4 := hid ((hv2.move (ok' := fun b => w.heap.size + 1 ≤ b ∧ b ≠ w1.heap.size) ⟨Nat.le_refl _, fun b hl hb => ⟨rfl, by have := HZ2.out; omega, by have := HZ2.out; omega⟩⟩).move (same_s (g := w1.heap.size) (c := 5) (u := .slice ao2 m2 c2) (fun b hb => hb.2)))
      have HZ4 : Hid ((w3.setCell ⟨w1.heap.size, 5, none⟩ (.slice ao2 m2 c2)).heap.size = w3.heap.size) := hid (by simp [World.setCell])
      clear h3 hv2 hr3 hg3 hq3 HU1 HP2 HQ2 HE2 HBj HR2 HG2 HG1 HP3
      by_cases k3 : (tks T k).t = [101, 108, 115, 101]
      · have hm := HOK.out.more HF3.out.2 (by rw [k3]; simp)
        have HT := hid (fun W (hh : RS W gR gt cap T k d) => ptakes_yes hh HOK.out HF3.out.2 (u := [101, 108, 115, 101]) (by simp) k3)
        have HU3 := hid (HU2.out.trans (if_pos k3))
        have HB5 := hid (fun W (hh : RS W gR gt cap T (k + 1) d) => HBk.out W (k + 1) hh hm (by have := HF1.out; have := HF3.out; omega))
        clear HU2 k3
        generalize hq6 : blockR (tks T) F st d (k + 1) = qq6 at *
        clear hq6
        go_wp2_with fail
        refine (HT.out _ HR4.out).mono ?_
        rintro e w5 ⟨rfl, hr5, hg5⟩
        have HG5 := hid (grow_trans HG4.out hg5)
        have HP5 := hid (HP4.out.grown hg5 (by simp; omega))
        have HQ5 := hid (HQ4.out.grown hg5 (by simp; omega))
        have HE5 := hid (SlF.move HE4.out (same_g hg5 (fun b hb => by omega)))
        have HV5 := hid (HV4.out.move (same_g hg5 (fun b hb => by omega)))
        have hz5 : w3.heap.size ≤ w5.heap.size := by have := hg5.size; have := HZ4.out; omega
        clear hg5 q0 q1 q2 q3 q4 q5 q6 qf HP4 HQ4 HE4 HV4 HR4 HG4
        go_wp2_with fail
        refine (HB5.out _ hr5).mono ?_
        intro e w6 h6
        rcases rout_cases h6 with ⟨el, l, v, hr, rfl, ⟨ao3, m3, c3, rfl, hv3⟩, hr6, hg6⟩ | ⟨x, l, hr, hg, hg6⟩
        · subst hr
          have HU : Hid (choiceR (tks T) F d st i = .ok (.mk 5 [] [] ec [] bd el) l) := hid (HU3.out.trans rfl)
          have HP6 := hid (HP5.out.grown hg6 (by simp; omega))
          have hq7 := HQ5.out.grown hg6 (by simp; omega)
          have HQ7 := hid hq7
          have HE7 := hid (SlF.move (SlF.move HE5.out (same_g hg6 (fun b hb => by omega))) (same_s (g := w1.heap.size) (c := 6) (u := .slice ao3 m3 c3) (fun b hb => hb.2)))
          have HV7 := hid ((HV5.out.move (same_g hg6 (fun b hb => by omega))).move (same_s (g := w1.heap.size) (c := 6) (u := .slice ao3 m3 c3) (fun b hb => hb.2)))
          have HW7 := hid ((hv3.move (ok' := fun b => w.heap.size + 1 ≤ b ∧ b ≠ w1.heap.size) ⟨Nat.le_refl _, fun b hl hb => ⟨rfl, by omega, by omega⟩⟩).move (same_s (g := w1.heap.size) (c := 6) (u := .slice ao3 m3 c3) (fun b hb => hb.2)))
          have HR7 := hid ((hr6.new (b := w1.heap.size) (c := 6) (by omega) (by omega) (.slice ao3 m3 c3)))
          have HG7 := hid (grow_new (grow_trans HG5.out hg6) (b := w1.heap.size) (by omega) 6 (.slice ao3 m3 c3))
          have HP7 := hid (HP6.out.other (b := w1.heap.size) (c := 6) (by omega) (.slice ao3 m3 c3))
          obtain ⟨q0, q1, q2, q3, q4, q5, q6⟩ := hq7.c
          have qf := hq7.f
          have ql7 := hq7.lt
          obtain ⟨p0, p1, p2, p3, p4, p5, p6⟩ := HP6.out.c
          have pf := HP6.out.f
          have pl := HP6.out.lt
          have hne : ¬ w1.heap.size = w.heap.size := by omega
          have hne2 : ¬ w.heap.size = w1.heap.size := by omega
          clear h6 hv3 hr6 hg6 hq7 HU3 HE5 HV5 HP5 HQ5 HG5
          go_wp2_with fail
          refine bodyPost_ret (res_choice _ rfl (HP7.out.store _ _ _ _ _ _ _)) rfl ?_
          rw [HU.out]
          refine rout_close (N := w.heap.size + 1) (w3 := w6.setCell ⟨w1.heap.size, 6, none⟩ (.slice ao3 m3 c3)) ?_ HR7.out hz HG7.out (by omega) (stv_mk (SlF.move HE7.out ⟨Nat.le_refl _, fun b _ hb => ⟨rfl, hb.1⟩⟩) (ar_nil _ _) (HV7.out.move ⟨Nat.le_refl _, fun b _ hb => ⟨rfl, hb.1⟩⟩) (HW7.out.move ⟨Nat.le_refl _, fun b _ hb => ⟨rfl, hb.1⟩⟩))
          (repeat (first | with_reducible exact Mid.refl _ _ _ | (with_reducible refine Mid.set ?_ (by omega) (by omega) _)))
        · unfold Gone at hg
          subst hg
          subst hr
          refine ⟨rfl, ?_⟩
          rw [HU3.out]
          exact ⟨rfl, grow_trans HG5.out hg6⟩
      · have HT := hid (fun W (hh : RS W gR gt cap T k d) => ptakes_no hh HOK.out HF3.out.2 (u := [101, 108, 115, 101]) (by simp) k3)
        have HU := hid (HU2.out.trans (if_neg k3))
        clear HU2 k3
        go_wp2_with fail
        refine (HT.out _ HR4.out).mono ?_
        rintro e w5 ⟨rfl, hr5, hb5⟩
        have HG5 := hid (grow_below HG4.out hb5)
        have HP5 := hid (HP4.out.keep hb5)
        have hq5 := HQ4.out.keep hb5
        have HE5 := hid (SlF.move HE4.out (same_b hb5))
        have HV5 := hid (HV4.out.move (same_b hb5))
        have HR5 := hid hr5
        clear q0 q1 q2 q3 q4 q5 q6 qf ql
        obtain ⟨q0, q1, q2, q3, q4, q5, q6⟩ := hq5.c
        have qf := hq5.f
        have ql := hq5.lt
        obtain ⟨p0, p1, p2, p3, p4, p5, p6⟩ := HP5.out.c
        have pf := HP5.out.f
        have pl := HP5.out.lt
        have hne : ¬ w1.heap.size = w.heap.size := by omega
        have hne2 : ¬ w.heap.size = w1.heap.size := by omega
        clear hb5 hq5 hr5 HP4 HQ4 HE4 HV4 HR4 HG4
        go_wp2_with fail
        refine bodyPost_ret (res_choice _ rfl (HP5.out.store _ _ _ _ _ _ _)) rfl ?_
        rw [HU.out]
        refine rout_close (N := w.heap.size + 1) (w3 := w5) ?_ HR5.out hz HG5.out (by omega) (stv_mk (SlF.move HE5.out ⟨Nat.le_refl _, fun b _ hb => ⟨rfl, hb.1⟩⟩) (ar_nil _ _) (HV5.out.move ⟨Nat.le_refl _, fun b _ hb => ⟨rfl, hb.1⟩⟩) (ss_nil _ _))
        (repeat (first | with_reducible exact Mid.refl _ _ _ | (with_reducible refine Mid.set ?_ (by omega) (by omega) _)))
    · unfold Gone at hg
      subst hg
      subst hr
      refine ⟨rfl, ?_⟩
      rw [HU1.out]
      exact ⟨rfl, grow_trans HG2.out hg3⟩
  · unfold Gone at hg
    subst hg
    subst hr
    refine ⟨rfl, ?_⟩
    rw [HU0.out]
    exact ⟨rfl, grow_trans (grow_alloc (grow_refl w (some gR)) _) hg1⟩
end
end Go.Proofs.YtjofhaakkleecaaDoor
