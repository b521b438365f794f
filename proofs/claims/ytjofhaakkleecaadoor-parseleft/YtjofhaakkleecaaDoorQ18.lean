/-
  Walks: statements.
-/
import Derived.Test.YtjofhaakkleecaaDoorQ17
namespace Go.Proofs.YtjofhaakkleecaaDoor
open Go.RowKit Lx
set_option linter.unusedSimpArgs false
set_option linter.unusedVariables false
set_option maxRecDepth 100000

section
variable {T : List Tk}
set_option maxHeartbeats 3200000 in
theorem pstmt_step (ok : Tks.Ok T) {F d n : Nat} (hF : T.length ≤ F) (hd : d ≤ 50) (HC : d ≠ 50 → SC T (d + 1) n (stR (tks T) F n (d + 1))) : SC T d (n + 1) (stR (tks T) F (n + 1) d) := by
  intro w gR gt cap i h hi hn
  have hz := h.box.lt
  have hz2 := h.lt
  have hst : ∀ i, i < T.length → FineR T i (stR (tks T) F n (d + 1) i) := fun i hi => st_fine ok F n (d + 1) hi
  have HR0 := hid (h.below ((Below.refl _ _).alloc (Nat.le_refl _) (.cells #[.int .i64 0, .string ⟨#[]⟩, .string ⟨#[]⟩, .slice none 0 0, .slice none 0 0, .slice none 0 0, .slice none 0 0] 48)))
  have HG0 := hid (grow_alloc (grow_refl w (some gR)) (.cells #[.int .i64 0, .string ⟨#[]⟩, .string ⟨#[]⟩, .slice none 0 0, .slice none 0 0, .slice none 0 0, .slice none 0 0] 48))
  have HB0 := hid (Box7.new w (.int .i64 0) (.string ⟨#[]⟩) (.string ⟨#[]⟩) (.slice none 0 0) (.slice none 0 0) (.slice none 0 0) (.slice none 0 0) 48)
  have HOK := hid ok
  by_cases k1 : (tks T i).t = [105, 102]
  · have hm := ok.more hi (by rw [k1]; simp)
    have HT := hid (fun W (hh : RS W gR gt cap T i d) => ptakes_yes hh ok hi (u := [105, 102]) (by simp) k1)
    have HE := hid (fun W (hh : RS W gR gt cap T (i + 1) d) => pchoice_any ok hF HC hst W gR gt cap (i + 1) hh hd hm (by omega))
    have HU : Hid (stR (tks T) F (n + 1) d i = choiceR (tks T) F d (stR (tks T) F n (d + 1)) (i + 1)) := hid (if_pos k1)
    clear h k1 ok hF hi hm hn HC hst
    generalize hq : choiceR (tks T) F d (stR (tks T) F n (d + 1)) (i + 1) = q at *
    clear hq
    go_enter Tryd.func39, Tryd.ntmps39; go_wp2_with fail; have hr := HR0.out; have hg := HG0.out; have hbx := HB0.out
    refine (HT.out _ hr).mono ?_
    rintro e wn ⟨rfl, hrn, hbn⟩; have hgn := grow_trans hg hbn; have hbxn := hbx.grown hbn (by simp; omega); clear hr hg hbx hbn; have hr := hrn; have hg := hgn; have hbx := hbxn; clear hrn hgn hbxn; go_wp2_with fail
    refine (HE.out _ hr).mono ?_
    intro e w3 h3
    rcases rout_cases h3 with ⟨a, j, v, hq, rfl, hv, hr3, hg3⟩ | ⟨x, j, hq, hgo, hg3⟩
    · subst hq
      have hzz := hbx.lt
      obtain ⟨kk, n1, n2, ae, aa, ab, al, me, ce, ma, ca, mb, cb, ml, cl, rfl⟩ := stv_form hv
      have HV := hid (stv_move (same_to (M := w.heap.size + 1) (by omega)) _ _ hv)
      have HG := hid (grow_trans hg hg3)
      have HBX := hid (hbx.grown hg3 (by simp; omega))
      have HR := hid hr3
      clear hr hg hbx hg3 h3 hv hr3
      obtain ⟨p0, p1, p2, p3, p4, p5, p6⟩ := HBX.out.c
      have pf := HBX.out.f
      have pl := HBX.out.lt
      go_wp2_with fail
      refine bodyPost_ret (res_stmt _ rfl (HBX.out.store _ _ _ _ _ _ _)) rfl ?_
      rw [HU.out]
      refine rout_close (N := w.heap.size + 1) (w3 := w3) ?_ HR.out hz HG.out (by omega) HV.out
      (repeat (first | with_reducible exact Mid.refl _ _ _ | (with_reducible refine Mid.set ?_ (by omega) (by omega) _)))
    · unfold Gone at hgo
      subst hgo
      subst hq
      refine ⟨rfl, ?_⟩
      rw [HU.out]
      exact ⟨rfl, grow_trans hg hg3⟩
  · have HN1 := hid (fun W (hh : RS W gR gt cap T i d) => ptakes_no hh ok hi (u := [105, 102]) (by simp) k1)
    by_cases k2 : (tks T i).t = [119, 104, 105, 108, 101]
    · have hm := ok.more hi (by rw [k2]; simp)
      have HT := hid (fun W (hh : RS W gR gt cap T i d) => ptakes_yes hh ok hi (u := [119, 104, 105, 108, 101]) (by simp) k2)
      have HE := hid (fun W (hh : RS W gR gt cap T (i + 1) d) => pcond_any ok hF hh hd hm)
      have HEF := hid (cond_fine ok F d hm)
      have HB := hid (fun W j (hh : RS W gR gt cap T j d) (hj : j < T.length) (hij : i ≤ j) => pblock_any ok hF HC hst W gR gt cap j hh hd hj (by omega))
      have HU : Hid (stR (tks T) F (n + 1) d i = (condR (tks T) F d (i + 1)).bind fun e j => (blockR (tks T) F (stR (tks T) F n (d + 1)) d j).bind fun b k => .ok (.mk 6 [] [] e [] b []) k) := hid ((if_neg k1).trans (if_pos k2))
      clear h k1 k2 ok hF hi hm hn HC hst
      generalize hq : condR (tks T) F d (i + 1) = q at *
      clear hq
      go_enter Tryd.func39, Tryd.ntmps39; go_wp2_with fail; have hr := HR0.out; have hg := HG0.out; have hbx := HB0.out
      refine (HN1.out _ hr).mono ?_
      rintro e wn ⟨rfl, hrn, hbn⟩; have hgn := grow_below hg hbn; have hbxn := hbx.keep hbn; clear hr hg hbx hbn; have hr := hrn; have hg := hgn; have hbx := hbxn; clear hrn hgn hbxn; go_wp2_with fail
      refine (HT.out _ hr).mono ?_
      rintro e wn ⟨rfl, hrn, hbn⟩; have hgn := grow_trans hg hbn; have hbxn := hbx.grown hbn (by simp; omega); clear hr hg hbx hbn; have hr := hrn; have hg := hgn; have hbx := hbxn; clear hrn hgn hbxn; go_wp2_with fail
      refine (HE.out _ hr).mono ?_
      intro e w1 h1
      rcases rout_cases h1 with ⟨ec, j, v, hq, rfl, ⟨ao1, m1, c1, rfl, hv1⟩, hr1, hg1⟩ | ⟨x, j, hq, hgo, hg1⟩
      · subst hq
        have HF1 : Hid (i + 1 < j ∧ j < T.length) := HEF
        have HBj := hid (fun W hh => HB.out W j hh HF1.out.2 (by have := HF1.out; omega))
        have HU1 : Hid (stR (tks T) F (n + 1) d i = (blockR (tks T) F (stR (tks T) F n (d + 1)) d j).bind fun b k => .ok (.mk 6 [] [] ec [] b []) k) := hid (HU.out.trans rfl)
        have hzz := hbx.lt
        have hz1 : w.heap.size + 1 ≤ w1.heap.size := by have := hg1.size; omega
        have HG1 := hid (grow_trans hg hg1)
        have hw2 : Below w1.heap.size w1 (w1.alloc (.cells #[.int .i64 6, .string ⟨#[]⟩, .string ⟨#[]⟩, .slice ao1 m1 c1, .slice none 0 0, .slice none 0 0, .slice none 0 0] 48)) := (Below.refl _ _).alloc (Nat.le_refl _) _
        have HR2 := hid (hr1.below hw2)
        have HG2 := hid (grow_below HG1.out hw2)
        have HP2 := hid ((hbx.grown hg1 (by simp; omega)).keep hw2)
        have HQ2 := hid (Box7.new w1 (.int .i64 6) (.string ⟨#[]⟩) (.string ⟨#[]⟩) (.slice ao1 m1 c1) (.slice none 0 0) (.slice none 0 0) (.slice none 0 0) 48)
        have HE2 := hid (SlF.move (SlF.move hv1 (ok' := fun b => w.heap.size + 1 ≤ b ∧ b ≠ w1.heap.size) ⟨Nat.le_refl _, fun b hl hb => ⟨rfl, by omega, by omega⟩⟩) (same_b hw2))
        have HZ2 : Hid ((w1.alloc (.cells #[.int .i64 6, .string ⟨#[]⟩, .string ⟨#[]⟩, .slice ao1 m1 c1, .slice none 0 0, .slice none 0 0, .slice none 0 0] 48)).heap.size = w1.heap.size + 1) := hid (by simp)
        clear h1 hv1 hr1 hg1 hw2 HU HB HE hr hg hbx
        generalize hq2 : blockR (tks T) F (stR (tks T) F n (d + 1)) d j = q2 at *
        clear hq2
        go_wp2_with fail
        refine (HBj.out _ HR2.out).mono ?_
        intro e w3 h3
        rcases rout_cases h3 with ⟨bd, k, v, hr, rfl, ⟨ao2, m2, c2, rfl, hv2⟩, hr3, hg3⟩ | ⟨x, k, hr, hg, hg3⟩
        · subst hr
          have HU2 : Hid (stR (tks T) F (n + 1) d i = .ok (.mk 6 [] [] ec [] bd []) k) := hid (HU1.out.trans rfl)
          have hz3 : w1.heap.size + 1 ≤ w3.heap.size := by have := hg3.size; have := HZ2.out; omega
          have HP3 := hid (HP2.out.grown hg3 (by simp; omega))
          have hq3 := HQ2.out.grown hg3 (by simp; omega)
          obtain ⟨q0, q1, q2, q3, q4, q5, q6⟩ := hq3.c
          have qf := hq3.f
          have ql := hq3.lt
          obtain ⟨p0, p1, p2, p3, p4, p5, p6⟩ := HP3.out.c
          have pf := HP3.out.f
          have pl := HP3.out.lt
          have hne : ¬ w1.heap.size = w.heap.size := by omega
          have hne2 : ¬ w.heap.size = w1.heap.size := by omega
          have HG3 := hid (grow_trans HG2.out hg3)
          have HR4 := hid ((hr3.new (b := w1.heap.size) (c := 5) (by omega) (by omega) (.slice ao2 m2 c2)))
          have HG4 := hid (grow_new HG3.out (b := w1.heap.size) (by omega) 5 (.slice ao2 m2 c2))
          have HP4 := hid (HP3.out.other (b := w1.heap.size) (c := 5) (by omega) (.slice ao2 m2 c2))
          have HE4 := hid (SlF.move (SlF.move HE2.out (same_g hg3 (fun b hb => by omega))) (same_s (g := w1.heap.size) (c := 5) (u := .slice ao2 m2 c2) (fun b hb => hb.2)))
          have HV4 := hid ((hv2.move (ok' := fun b => w.heap.size + 1 ≤ b ∧ b ≠ w1.heap.size) ⟨Nat.le_refl _, fun b hl hb => ⟨rfl, by have := HZ2.out; omega, by have := HZ2.out; omega⟩⟩).move (same_s (g := w1.heap.size) (c := 5) (u := .slice ao2 m2 c2) (fun b hb => hb.2)))
          clear h3 hv2 hr3 hg3 hq3 HU1 HP2 HQ2 HE2 HBj HR2 HG2 HG1
          go_wp2_with fail
          refine bodyPost_ret (res_stmt _ rfl (HP4.out.store _ _ _ _ _ _ _)) rfl ?_
          rw [HU2.out]
          refine rout_close (N := w.heap.size + 1) (w3 := w3.setCell ⟨w1.heap.size, 5, none⟩ (.slice ao2 m2 c2)) ?_ HR4.out hz HG4.out (by omega) (stv_mk (SlF.move HE4.out ⟨Nat.le_refl _, fun b _ hb => ⟨rfl, hb.1⟩⟩) (ar_nil _ _) (HV4.out.move ⟨Nat.le_refl _, fun b _ hb => ⟨rfl, hb.1⟩⟩) (ss_nil _ _))
          (repeat (first | with_reducible exact Mid.refl _ _ _ | (with_reducible refine Mid.set ?_ (by omega) (by omega) _)))
        · unfold Gone at hg
          subst hg
          subst hr
          refine ⟨rfl, ?_⟩
          rw [HU1.out]
          exact ⟨rfl, grow_trans HG2.out hg3⟩
      · unfold Gone at hgo
        subst hgo
        subst hq
        refine ⟨rfl, ?_⟩
        rw [HU.out]
        exact ⟨rfl, grow_trans hg hg1⟩
    · have HN2 := hid (fun W (hh : RS W gR gt cap T i d) => ptakes_no hh ok hi (u := [119, 104, 105, 108, 101]) (by simp) k2)
      by_cases k3 : (tks T i).t = [101, 105, 116, 104, 101, 114]
      · have hm := ok.more hi (by rw [k3]; simp)
        have HT := hid (fun W (hh : RS W gR gt cap T i d) => ptakes_yes hh ok hi (u := [101, 105, 116, 104, 101, 114]) (by simp) k3)
        have HB := hid (fun W j (hh : RS W gR gt cap T j d) (hj : j < T.length) (hij : i ≤ j) => pblock_any ok hF HC hst W gR gt cap j hh hd hj (by omega))
        have HBF := hid (fun j (hj : j < T.length) => block_fine ok F hst d hj)
        have HB1 := hid (fun W hh => HB.out W (i + 1) hh hm (by omega))
        have HB1F := hid (HBF.out (i + 1) hm)
        have HU : Hid (stR (tks T) F (n + 1) d i = (blockR (tks T) F (stR (tks T) F n (d + 1)) d (i + 1)).bind fun b j => (takeR (tks T) [111, 114] () j).bind fun _ k => (blockR (tks T) F (stR (tks T) F n (d + 1)) d k).bind fun c l => .ok (.mk 7 [] [] [] [] b c) l) := hid ((if_neg k1).trans ((if_neg k2).trans (if_pos k3)))
        clear h k1 k2 k3 ok hF hi hm hn HC hst
        generalize hq : blockR (tks T) F (stR (tks T) F n (d + 1)) d (i + 1) = q at *
        clear hq
        go_enter Tryd.func39, Tryd.ntmps39; go_wp2_with fail; have hr := HR0.out; have hg := HG0.out; have hbx := HB0.out
        refine (HN1.out _ hr).mono ?_
        rintro e wn ⟨rfl, hrn, hbn⟩; have hgn := grow_below hg hbn; have hbxn := hbx.keep hbn; clear hr hg hbx hbn; have hr := hrn; have hg := hgn; have hbx := hbxn; clear hrn hgn hbxn; go_wp2_with fail
        refine (HN2.out _ hr).mono ?_
        rintro e wn ⟨rfl, hrn, hbn⟩; have hgn := grow_below hg hbn; have hbxn := hbx.keep hbn; clear hr hg hbx hbn; have hr := hrn; have hg := hgn; have hbx := hbxn; clear hrn hgn hbxn; go_wp2_with fail
        refine (HT.out _ hr).mono ?_
        rintro e wn ⟨rfl, hrn, hbn⟩; have hgn := grow_trans hg hbn; have hbxn := hbx.grown hbn (by simp; omega); clear hr hg hbx hbn; have hr := hrn; have hg := hgn; have hbx := hbxn; clear hrn hgn hbxn; go_wp2_with fail
        refine (HB1.out _ hr).mono ?_
        intro e w1 h1
        rcases rout_cases h1 with ⟨bd, j, v, hq, rfl, ⟨ao1, m1, c1, rfl, hv1⟩, hr1, hg1⟩ | ⟨x, j, hq, hgo, hg1⟩
        · subst hq
          have HF1 : Hid (i + 1 < j ∧ j < T.length) := HB1F
          have HU1 : Hid (stR (tks T) F (n + 1) d i = (takeR (tks T) [111, 114] () j).bind fun _ k => (blockR (tks T) F (stR (tks T) F n (d + 1)) d k).bind fun c l => .ok (.mk 7 [] [] [] [] bd c) l) := hid (HU.out.trans rfl)
          have hzz := hbx.lt
          have hz1 : w.heap.size + 1 ≤ w1.heap.size := by have := hg1.size; omega
          have HG1 := hid (grow_trans hg hg1)
          have hw2 : Below w1.heap.size w1 (w1.alloc (.cells #[.int .i64 7, .string ⟨#[]⟩, .string ⟨#[]⟩, .slice none 0 0, .slice none 0 0, .slice ao1 m1 c1, .slice none 0 0] 48)) := (Below.refl _ _).alloc (Nat.le_refl _) _
          have HR2 := hid (hr1.below hw2)
          have HG2 := hid (grow_below HG1.out hw2)
          have HP2 := hid ((hbx.grown hg1 (by simp; omega)).keep hw2)
          have HQ2 := hid (Box7.new w1 (.int .i64 7) (.string ⟨#[]⟩) (.string ⟨#[]⟩) (.slice none 0 0) (.slice none 0 0) (.slice ao1 m1 c1) (.slice none 0 0) 48)
          have HE2 := hid ((hv1.move (ok' := fun b => w.heap.size + 1 ≤ b ∧ b ≠ w1.heap.size) ⟨Nat.le_refl _, fun b hl hb => ⟨rfl, by omega, by omega⟩⟩).move (same_b hw2))
          have HZ2 : Hid ((w1.alloc (.cells #[.int .i64 7, .string ⟨#[]⟩, .string ⟨#[]⟩, .slice none 0 0, .slice none 0 0, .slice ao1 m1 c1, .slice none 0 0] 48)).heap.size = w1.heap.size + 1) := hid (by simp)
          clear h1 hv1 hr1 hg1 hw2 HU HB1 hr hg hbx
          by_cases k4 : (tks T j).t = [111, 114]
          · have hm := HOK.out.more HF1.out.2 (by rw [k4]; simp)
            have HTo := hid (fun W (hh : RS W gR gt cap T j d) => ptake_yes hh HOK.out HF1.out.2 (u := [111, 114]) (by simp) k4)
            have HBj := hid (fun W hh => HB.out W (j + 1) hh hm (by have := HF1.out; omega))
            have HU2 : Hid (stR (tks T) F (n + 1) d i = (blockR (tks T) F (stR (tks T) F n (d + 1)) d (j + 1)).bind fun c l => .ok (.mk 7 [] [] [] [] bd c) l) := hid (by rw [HU1.out]; unfold takeR; rw [if_pos k4]; rfl)
            clear HU1 k4 HB
            generalize hq2 : blockR (tks T) F (stR (tks T) F n (d + 1)) d (j + 1) = q2 at *
            clear hq2
            go_wp2_with fail
            refine (HTo.out _ HR2.out).mono ?_
            rintro e w5 ⟨rfl, hr5, hg5⟩
            have HG5 := hid (grow_trans HG2.out hg5)
            have HP5 := hid (HP2.out.grown hg5 (by simp; omega))
            have HQ5 := hid (HQ2.out.grown hg5 (by simp; omega))
            have HE5 := hid (HE2.out.move (same_g hg5 (fun b hb => by omega)))
            have hz5 : w1.heap.size + 1 ≤ w5.heap.size := by have := hg5.size; have := HZ2.out; omega
            clear hg5 HP2 HQ2 HE2 HR2 HG2
            go_wp2_with fail
            refine (HBj.out _ hr5).mono ?_
            intro e w3 h3
            rcases rout_cases h3 with ⟨el, k, v, hr, rfl, ⟨ao2, m2, c2, rfl, hv2⟩, hr3, hg3⟩ | ⟨x, k, hr, hg, hg3⟩
            · subst hr
              have HU3 : Hid (stR (tks T) F (n + 1) d i = .ok (.mk 7 [] [] [] [] bd el) k) := hid (HU2.out.trans rfl)
              have hz3 : w5.heap.size ≤ w3.heap.size := hg3.size
              have HP3 := hid (HP5.out.grown hg3 (by simp; omega))
              have hq3 := HQ5.out.grown hg3 (by simp; omega)
              obtain ⟨q0, q1, q2, q3, q4, q5, q6⟩ := hq3.c
              have qf := hq3.f
              have ql := hq3.lt
              obtain ⟨p0, p1, p2, p3, p4, p5, p6⟩ := HP3.out.c
              have pf := HP3.out.f
              have pl := HP3.out.lt
              have hne : ¬ w1.heap.size = w.heap.size := by omega
              have hne2 : ¬ w.heap.size = w1.heap.size := by omega
              have HG3 := hid (grow_trans HG5.out hg3)
              have HR4 := hid ((hr3.new (b := w1.heap.size) (c := 6) (by omega) (by omega) (.slice ao2 m2 c2)))
              have HG4 := hid (grow_new HG3.out (b := w1.heap.size) (by omega) 6 (.slice ao2 m2 c2))
              have HP4 := hid (HP3.out.other (b := w1.heap.size) (c := 6) (by omega) (.slice ao2 m2 c2))
              have HE4 := hid ((HE5.out.move (same_g hg3 (fun b hb => by omega))).move (same_s (g := w1.heap.size) (c := 6) (u := .slice ao2 m2 c2) (fun b hb => hb.2)))
              have HV4 := hid ((hv2.move (ok' := fun b => w.heap.size + 1 ≤ b ∧ b ≠ w1.heap.size) ⟨Nat.le_refl _, fun b hl hb => ⟨rfl, by omega, by omega⟩⟩).move (same_s (g := w1.heap.size) (c := 6) (u := .slice ao2 m2 c2) (fun b hb => hb.2)))
              clear h3 hv2 hr3 hg3 hq3 HU2 HP5 HQ5 HE5 HBj HG5 HG1
              go_wp2_with fail
              refine bodyPost_ret (res_stmt _ rfl (HP4.out.store _ _ _ _ _ _ _)) rfl ?_
              rw [HU3.out]
              refine rout_close (N := w.heap.size + 1) (w3 := w3.setCell ⟨w1.heap.size, 6, none⟩ (.slice ao2 m2 c2)) ?_ HR4.out hz HG4.out (by omega) (stv_mk (nd_nil _ _) (ar_nil _ _) (HE4.out.move ⟨Nat.le_refl _, fun b _ hb => ⟨rfl, hb.1⟩⟩) (HV4.out.move ⟨Nat.le_refl _, fun b _ hb => ⟨rfl, hb.1⟩⟩))
              (repeat (first | with_reducible exact Mid.refl _ _ _ | (with_reducible refine Mid.set ?_ (by omega) (by omega) _)))
            · unfold Gone at hg
              subst hg
              subst hr
              refine ⟨rfl, ?_⟩
              rw [HU2.out]
              exact ⟨rfl, grow_trans HG5.out hg3⟩
          · have HTo := hid (fun W (hh : RS W gR gt cap T j d) => ptake_no hh HOK.out HF1.out.2 (u := [111, 114]) (by simp) k4)
            have HU2 : Hid (stR (tks T) F (n + 1) d i = .bad 4 j) := hid (by rw [HU1.out]; unfold takeR; rw [if_neg k4]; rfl)
            clear HU1 k4 HB
            go_wp2_with fail
            refine (HTo.out _ HR2.out).mono ?_
            rintro e w5 ⟨hg, hb5⟩
            unfold Gone at hg
            subst hg
            refine ⟨rfl, ?_⟩
            rw [HU2.out]
            exact ⟨rfl, grow_below HG2.out hb5⟩
        · unfold Gone at hgo
          subst hgo
          subst hq
          refine ⟨rfl, ?_⟩
          rw [HU.out]
          exact ⟨rfl, grow_trans hg hg1⟩
      · have HN3 := hid (fun W (hh : RS W gR gt cap T i d) => ptakes_no hh ok hi (u := [101, 105, 116, 104, 101, 114]) (by simp) k3)
        have HE := hid (fun W (hh : RS W gR gt cap T i d) => pplain_any ok hF hh hd hi)
        have HEF := hid (plain_fine ok F d hi)
        have HU : Hid (stR (tks T) F (n + 1) d i = (plainR (tks T) F d i).bind fun s j => takeR (tks T) [59] s j) := hid ((if_neg k1).trans ((if_neg k2).trans (if_neg k3)))
        clear h k1 k2 k3 ok hF hi hn HC hst
        generalize hq : plainR (tks T) F d i = q at *
        clear hq
        go_enter Tryd.func39, Tryd.ntmps39; go_wp2_with fail; have hr := HR0.out; have hg := HG0.out; have hbx := HB0.out
        refine (HN1.out _ hr).mono ?_
        rintro e wn ⟨rfl, hrn, hbn⟩; have hgn := grow_below hg hbn; have hbxn := hbx.keep hbn; clear hr hg hbx hbn; have hr := hrn; have hg := hgn; have hbx := hbxn; clear hrn hgn hbxn; go_wp2_with fail
        refine (HN2.out _ hr).mono ?_
        rintro e wn ⟨rfl, hrn, hbn⟩; have hgn := grow_below hg hbn; have hbxn := hbx.keep hbn; clear hr hg hbx hbn; have hr := hrn; have hg := hgn; have hbx := hbxn; clear hrn hgn hbxn; go_wp2_with fail
        refine (HN3.out _ hr).mono ?_
        rintro e wn ⟨rfl, hrn, hbn⟩; have hgn := grow_below hg hbn; have hbxn := hbx.keep hbn; clear hr hg hbx hbn; have hr := hrn; have hg := hgn; have hbx := hbxn; clear hrn hgn hbxn; go_wp2_with fail
        refine (HE.out _ hr).mono ?_
        intro e w3 h3
        rcases rout_cases h3 with ⟨a, j, v, hq, rfl, hv, hr3, hg3⟩ | ⟨x, j, hq, hgo, hg3⟩
        · subst hq
          have HF1 : Hid (i < j ∧ j < T.length) := HEF
          have hzz := hbx.lt
          obtain ⟨kk, n1, n2, ae, aa, ab, al, me, ce, ma, ca, mb, cb, ml, cl, rfl⟩ := stv_form hv
          have hw4 : Below w3.heap.size w3 (w3.alloc (.cells #[.int .i64 (kk : Int), .string n1, .string n2, .slice ae me ce, .slice aa ma ca, .slice ab mb cb, .slice al ml cl] 48)) := (Below.refl _ _).alloc (Nat.le_refl _) _
          have HV := hid (stv_move (same_b hw4) _ _ (stv_move (same_to (M := w.heap.size + 1) (by omega)) _ _ hv))
          have HG := hid (grow_below (grow_trans hg hg3) hw4)
          have HBX := hid ((hbx.grown hg3 (by simp; omega)).keep hw4)
          have HQX := hid (Box7.new w3 (.int .i64 (kk : Int)) (.string n1) (.string n2) (.slice ae me ce) (.slice aa ma ca) (.slice ab mb cb) (.slice al ml cl) 48)
          have HR := hid (hr3.below hw4)
          have hz3 : w.heap.size + 1 ≤ w3.heap.size := by have := hg3.size; omega
          have HZ4 : Hid ((w3.alloc (.cells #[.int .i64 (kk : Int), .string n1, .string n2, .slice ae me ce, .slice aa ma ca, .slice ab mb cb, .slice al ml cl] 48)).heap.size = w3.heap.size + 1) := hid (by simp)
          clear hr hg hbx hg3 h3 hv hr3 hw4
          by_cases k4 : (tks T j).t = [59]
          · have HTo := hid (fun W (hh : RS W gR gt cap T j d) => ptake_yes hh HOK.out HF1.out.2 (u := [59]) (by simp) k4)
            have HU2 : Hid (stR (tks T) F (n + 1) d i = .ok a (j + 1)) := hid (HU.out.trans (if_pos k4))
            clear HU k4
            go_wp2_with fail
            refine (HTo.out _ HR.out).mono ?_
            rintro e w5 ⟨rfl, hr5, hg5⟩
            have HR5 := hid hr5
            have HG5 := hid (grow_trans HG.out hg5)
            have HP5 := hid (HBX.out.grown hg5 (by simp; omega))
            have hq5 := HQX.out.grown hg5 (by simp; omega)
            have HV5 := hid (stv_move (same_g hg5 (fun b hb => by omega)) _ _ HV.out)
            obtain ⟨q0, q1, q2, q3, q4, q5, q6⟩ := hq5.c
            have qf := hq5.f
            have ql := hq5.lt
            obtain ⟨p0, p1, p2, p3, p4, p5, p6⟩ := HP5.out.c
            have pf := HP5.out.f
            have pl := HP5.out.lt
            have hne : ¬ w3.heap.size = w.heap.size := by omega
            have hne2 : ¬ w.heap.size = w3.heap.size := by omega
            clear hg5 hr5 hq5 HBX HQX HV HR HG
            go_wp2_with fail
            refine bodyPost_ret (res_stmt _ rfl (HP5.out.store _ _ _ _ _ _ _)) rfl ?_
            rw [HU2.out]
            refine rout_close (N := w.heap.size + 1) (w3 := w5) ?_ HR5.out hz HG5.out (by omega) HV5.out
            (repeat (first | with_reducible exact Mid.refl _ _ _ | (with_reducible refine Mid.set ?_ (by omega) (by omega) _)))
          · have HTo := hid (fun W (hh : RS W gR gt cap T j d) => ptake_no hh HOK.out HF1.out.2 (u := [59]) (by simp) k4)
            have HU2 : Hid (stR (tks T) F (n + 1) d i = .bad 4 j) := hid (HU.out.trans (if_neg k4))
            clear HU k4
            go_wp2_with fail
            refine (HTo.out _ HR.out).mono ?_
            rintro e w5 ⟨hg, hb5⟩
            unfold Gone at hg
            subst hg
            refine ⟨rfl, ?_⟩
            rw [HU2.out]
            exact ⟨rfl, grow_below HG.out hb5⟩
        · unfold Gone at hgo
          subst hgo
          subst hq
          refine ⟨rfl, ?_⟩
          rw [HU.out]
          exact ⟨rfl, grow_trans hg hg3⟩
theorem pstmt_any (ok : Tks.Ok T) {F : Nat} (hF : T.length ≤ F) : ∀ n d, d ≤ 50 → SC T d n (stR (tks T) F n d)
  | 0, d, hd => fun w gR gt cap i h hi hn => by omega
  | n + 1, d, hd => pstmt_step ok hF hd fun h => pstmt_any ok hF n (d + 1) (by omega)
end
end Go.Proofs.YtjofhaakkleecaaDoor
