/-
  Walks: statements without blocks.
-/
import Derived.Test.YtjofhaakkleecaaDoorQ14
namespace Go.Proofs.YtjofhaakkleecaaDoor
open Go.RowKit Lx
set_option linter.unusedSimpArgs false
set_option linter.unusedVariables false
set_option maxRecDepth 100000

theorem res_plain {W : World} {g : Nat} {y0 y1 y2 y3 y4 y5 y6 : Value} (tmps : Array Value) (hg : tmps[2]? = some (.pointer (some ⟨g, 0, none⟩))) (h : Box7 W g y0 y1 y2 y3 y4 y5 y6) : (results Tryd.f47 tmps).run Tryd.prog W = .ok (.agg #[y0, y1, y2, y3, y4, y5, y6]) W := by
  obtain ⟨c0, c1, c2, c3, c4, c5, c6⟩ := h.c
  simp [results, Tryd.results47, go_sem, hg, c0, c1, c2, c3, c4, c5, c6]
theorem stv_form {w : World} {ok : Nat → Prop} {s : St} {v : Value} (h : StV w ok s v) : ∃ (k : Nat) (n1 n2 : ByteArray) (ae aa ab al : Option Addr) (me ce ma ca mb cb ml cl : Nat), v = .agg #[.int .i64 (k : Int), .string n1, .string n2, .slice ae me ce, .slice aa ma ca, .slice ab mb cb, .slice al ml cl] := by
  obtain ⟨k, name, proc, e, args, body, els⟩ := s
  unfold StV at h
  obtain ⟨ae, me, ce, aa, ma, ca, ab, mb, cb, al, ml, cl, vb, vl, rfl, -⟩ := h
  exact ⟨k, _, _, ae, aa, ab, al, me, ce, ma, ca, mb, cb, ml, cl, rfl⟩
theorem same_to {w : World} {N M : Nat} (h : M ≤ N) : Same w w (fun b => N ≤ b) (fun b => M ≤ b) := ⟨Nat.le_refl _, fun b _ hb => ⟨rfl, Nat.le_trans h hb⟩⟩
section
variable {w : World} {gR gt cap i d : Nat} {T : List Tk}
set_option maxHeartbeats 3200000 in
theorem pplain_any (ok : Tks.Ok T) {F : Nat} (hF : T.length ≤ F) (h : RS w gR gt cap T i d) (hd : d ≤ 50) (hi : i < T.length) :
    Calls Tryd.prog 47 #[.pointer (some ⟨gR, 0, none⟩)] w (ROut w gR gt cap T d (fun ok w' s v => StV w' ok s v) (plainR (tks T) F d i)) := by
  have hz := h.box.lt
  have hz2 := h.lt
  have HR0 := hid (h.below ((Below.refl _ _).alloc (Nat.le_refl _) (.cells #[.int .i64 0, .string ⟨#[]⟩, .string ⟨#[]⟩, .slice none 0 0, .slice none 0 0, .slice none 0 0, .slice none 0 0] 48)))
  have HG0 := hid (grow_alloc (grow_refl w (some gR)) (.cells #[.int .i64 0, .string ⟨#[]⟩, .string ⟨#[]⟩, .slice none 0 0, .slice none 0 0, .slice none 0 0, .slice none 0 0] 48))
  have HB0 := hid (Box7.new w (.int .i64 0) (.string ⟨#[]⟩) (.string ⟨#[]⟩) (.slice none 0 0) (.slice none 0 0) (.slice none 0 0) (.slice none 0 0) 48)
  have HOK := hid ok
  have HI := hid hi
  by_cases k1 : (tks T i).t = [104, 97, 118, 111, 99]
  · have hm := ok.more hi (by rw [k1]; simp)
    have HT1 := hid (fun W (hh : RS W gR gt cap T i d) => ptakes_yes hh ok hi (u := [104, 97, 118, 111, 99]) (by simp) k1)
    have HU0 : Hid (plainR (tks T) F d i = (nameR (tks T) (i + 1)).bind fun x j => .ok (.mk 2 x [] [] [] [] []) j) := hid (if_pos k1)
    by_cases hk : (tks T (i + 1)).k = 1
    · have HN := hid (fun W (hh : RS W gR gt cap T (i + 1) d) => pname_yes hh hm hk)
      have HU : Hid (plainR (tks T) F d i = .ok (.mk 2 (tks T (i + 1)).t [] [] [] [] []) (i + 2)) := hid (by rw [HU0.out]; unfold nameR; rw [if_pos hk]; rfl)
      clear h k1 hk ok hF hi hm HU0
      go_enter Tryd.func47, Tryd.ntmps47; go_wp2_with fail; have hr := HR0.out; have hg := HG0.out; have hbx := HB0.out
      refine (HT1.out _ hr).mono ?_
      rintro e wn ⟨rfl, hrn, hbn⟩; have hgn := grow_trans hg hbn; have hbxn := hbx.grown hbn (by simp; omega); clear hr hg hbx hbn; have hr := hrn; have hg := hgn; have hbx := hbxn; clear hrn hgn hbxn; go_wp2_with fail
      refine (HN.out _ hr).mono ?_
      rintro e wn ⟨rfl, hrn, hbn⟩
      have hgn := grow_trans hg hbn
      have hbxn := hbx.grown hbn (by simp; omega)
      clear hr hg hbx hbn
      have hr := hrn
      have hg := hgn
      have hbx := hbxn
      clear hrn hgn hbxn
      obtain ⟨p0, p1, p2, p3, p4, p5, p6⟩ := hbx.c; have pf := hbx.f; have pl := hbx.lt; have HBX := hid hbx; have HR := hid hr; have HG := hid hg; clear hbx hr hg
      go_wp2_with fail
      refine bodyPost_ret (res_plain _ rfl (HBX.out.store _ _ _ _ _ _ _)) rfl ?_
      rw [HU.out]
      refine rout_close (N := w.heap.size + 1) (w3 := wn) ?_ HR.out hz HG.out (by omega) (stv_mk (nd_nil _ _) (ar_nil _ _) (ss_nil _ _) (ss_nil _ _))
      (repeat (first | with_reducible exact Mid.refl _ _ _ | (with_reducible refine Mid.set ?_ (by omega) (by omega) _)))
    · have HN := hid (fun W (hh : RS W gR gt cap T (i + 1) d) => pname_no hh hm hk)
      have HU : Hid (plainR (tks T) F d i = .bad 4 (i + 1)) := hid (by rw [HU0.out]; unfold nameR; rw [if_neg hk]; rfl)
      clear h k1 hk ok hF hi hm HU0
      go_enter Tryd.func47, Tryd.ntmps47; go_wp2_with fail; have hr := HR0.out; have hg := HG0.out; have hbx := HB0.out
      refine (HT1.out _ hr).mono ?_
      rintro e wn ⟨rfl, hrn, hbn⟩; have hgn := grow_trans hg hbn; have hbxn := hbx.grown hbn (by simp; omega); clear hr hg hbx hbn; have hr := hrn; have hg := hgn; have hbx := hbxn; clear hrn hgn hbxn; go_wp2_with fail
      refine (HN.out _ hr).mono ?_
      rintro e wn ⟨hgn, hbn⟩
      unfold Gone at hgn
      subst hgn
      refine ⟨rfl, ?_⟩
      rw [HU.out]
      exact ⟨rfl, grow_below hg hbn⟩
  · have HN1 := hid (fun W (hh : RS W gR gt cap T i d) => ptakes_no hh ok hi (u := [104, 97, 118, 111, 99]) (by simp) k1)
    by_cases k2 : (tks T i).t = [97, 115, 115, 117, 109, 101]
    · have hm := ok.more hi (by rw [k2]; simp)
      have HT2 := hid (fun W (hh : RS W gR gt cap T i d) => ptakes_yes hh ok hi (u := [97, 115, 115, 117, 109, 101]) (by simp) k2)
      have HC := hid (fun W (hh : RS W gR gt cap T (i + 1) d) => pcond_any ok hF hh hd hm)
      have HU : Hid (plainR (tks T) F d i = (condR (tks T) F d (i + 1)).bind fun e j => .ok (.mk 3 [] [] e [] [] []) j) := hid ((if_neg k1).trans (if_pos k2))
      clear h k1 k2 ok hF hi hm
      generalize hq : condR (tks T) F d (i + 1) = q at *
      clear hq
      go_enter Tryd.func47, Tryd.ntmps47; go_wp2_with fail; have hr := HR0.out; have hg := HG0.out; have hbx := HB0.out
      refine (HN1.out _ hr).mono ?_
      rintro e wn ⟨rfl, hrn, hbn⟩; have hgn := grow_below hg hbn; have hbxn := hbx.keep hbn; clear hr hg hbx hbn; have hr := hrn; have hg := hgn; have hbx := hbxn; clear hrn hgn hbxn; go_wp2_with fail
      refine (HT2.out _ hr).mono ?_
      rintro e wn ⟨rfl, hrn, hbn⟩; have hgn := grow_trans hg hbn; have hbxn := hbx.grown hbn (by simp; omega); clear hr hg hbx hbn; have hr := hrn; have hg := hgn; have hbx := hbxn; clear hrn hgn hbxn; go_wp2_with fail
      refine (HC.out _ hr).mono ?_
      intro e w3 h3
      rcases rout_cases h3 with ⟨a, j, v, hq, rfl, ⟨ao, m, c, rfl, hv⟩, hr3, hg3⟩ | ⟨x, j, hq, hgo, hg3⟩
      · subst hq
        have hzz := hbx.lt
        have HV := hid (SlF.move hv (same_to (M := w.heap.size + 1) (by omega)))
        have hgn := grow_trans hg hg3
        have hbxn := hbx.grown hg3 (by simp; omega)
        clear hr hg hbx hg3 h3 hv
        have hr := hr3
        have hg := hgn
        have hbx := hbxn
        clear hr3 hgn hbxn
        obtain ⟨p0, p1, p2, p3, p4, p5, p6⟩ := hbx.c; have pf := hbx.f; have pl := hbx.lt; have HBX := hid hbx; have HR := hid hr; have HG := hid hg; clear hbx hr hg
        go_wp2_with fail
        refine bodyPost_ret (res_plain _ rfl (HBX.out.store _ _ _ _ _ _ _)) rfl ?_
        rw [HU.out]
        refine rout_close (N := w.heap.size + 1) (w3 := w3) ?_ HR.out hz HG.out (by omega) (stv_mk HV.out (ar_nil _ _) (ss_nil _ _) (ss_nil _ _))
        (repeat (first | with_reducible exact Mid.refl _ _ _ | (with_reducible refine Mid.set ?_ (by omega) (by omega) _)))
      · unfold Gone at hgo
        subst hgo
        subst hq
        refine ⟨rfl, ?_⟩
        rw [HU.out]
        exact ⟨rfl, grow_trans hg hg3⟩
    · have HN2 := hid (fun W (hh : RS W gR gt cap T i d) => ptakes_no hh ok hi (u := [97, 115, 115, 117, 109, 101]) (by simp) k2)
      by_cases k3 : (tks T i).t = [97, 115, 115, 101, 114, 116]
      · have hm := ok.more hi (by rw [k3]; simp)
        have HT2 := hid (fun W (hh : RS W gR gt cap T i d) => ptakes_yes hh ok hi (u := [97, 115, 115, 101, 114, 116]) (by simp) k3)
        have HC := hid (fun W (hh : RS W gR gt cap T (i + 1) d) => pcond_any ok hF hh hd hm)
        have HU : Hid (plainR (tks T) F d i = (condR (tks T) F d (i + 1)).bind fun e j => .ok (.mk 4 [] [] e [] [] []) j) := hid ((if_neg k1).trans ((if_neg k2).trans (if_pos k3)))
        clear h k1 k2 k3 ok hF hi hm
        generalize hq : condR (tks T) F d (i + 1) = q at *
        clear hq
        go_enter Tryd.func47, Tryd.ntmps47; go_wp2_with fail; have hr := HR0.out; have hg := HG0.out; have hbx := HB0.out
        refine (HN1.out _ hr).mono ?_
        rintro e wn ⟨rfl, hrn, hbn⟩; have hgn := grow_below hg hbn; have hbxn := hbx.keep hbn; clear hr hg hbx hbn; have hr := hrn; have hg := hgn; have hbx := hbxn; clear hrn hgn hbxn; go_wp2_with fail
        refine (HN2.out _ hr).mono ?_
        rintro e wn ⟨rfl, hrn, hbn⟩; have hgn := grow_below hg hbn; have hbxn := hbx.keep hbn; clear hr hg hbx hbn; have hr := hrn; have hg := hgn; have hbx := hbxn; clear hrn hgn hbxn; go_wp2_with fail
        refine (HT2.out _ hr).mono ?_
        rintro e wn ⟨rfl, hrn, hbn⟩; have hgn := grow_trans hg hbn; have hbxn := hbx.grown hbn (by simp; omega); clear hr hg hbx hbn; have hr := hrn; have hg := hgn; have hbx := hbxn; clear hrn hgn hbxn; go_wp2_with fail
        refine (HC.out _ hr).mono ?_
        intro e w3 h3
        rcases rout_cases h3 with ⟨a, j, v, hq, rfl, ⟨ao, m, c, rfl, hv⟩, hr3, hg3⟩ | ⟨x, j, hq, hgo, hg3⟩
        · subst hq
          have hzz := hbx.lt
          have HV := hid (SlF.move hv (same_to (M := w.heap.size + 1) (by omega)))
          have hgn := grow_trans hg hg3
          have hbxn := hbx.grown hg3 (by simp; omega)
          clear hr hg hbx hg3 h3 hv
          have hr := hr3
          have hg := hgn
          have hbx := hbxn
          clear hr3 hgn hbxn
          obtain ⟨p0, p1, p2, p3, p4, p5, p6⟩ := hbx.c; have pf := hbx.f; have pl := hbx.lt; have HBX := hid hbx; have HR := hid hr; have HG := hid hg; clear hbx hr hg
          go_wp2_with fail
          refine bodyPost_ret (res_plain _ rfl (HBX.out.store _ _ _ _ _ _ _)) rfl ?_
          rw [HU.out]
          refine rout_close (N := w.heap.size + 1) (w3 := w3) ?_ HR.out hz HG.out (by omega) (stv_mk HV.out (ar_nil _ _) (ss_nil _ _) (ss_nil _ _))
          (repeat (first | with_reducible exact Mid.refl _ _ _ | (with_reducible refine Mid.set ?_ (by omega) (by omega) _)))
        · unfold Gone at hgo
          subst hgo
          subst hq
          refine ⟨rfl, ?_⟩
          rw [HU.out]
          exact ⟨rfl, grow_trans hg hg3⟩
      · have HN3 := hid (fun W (hh : RS W gR gt cap T i d) => ptakes_no hh ok hi (u := [97, 115, 115, 101, 114, 116]) (by simp) k3)
        by_cases k4 : (tks T i).t = [115, 107, 105, 112]
        · have HT2 := hid (fun W (hh : RS W gR gt cap T i d) => ptakes_yes hh ok hi (u := [115, 107, 105, 112]) (by simp) k4)
          have HU : Hid (plainR (tks T) F d i = .ok (.mk 9 [] [] [] [] [] []) (i + 1)) := hid ((if_neg k1).trans ((if_neg k2).trans ((if_neg k3).trans (if_pos k4))))
          clear h k1 k2 k3 k4 ok hF hi
          go_enter Tryd.func47, Tryd.ntmps47; go_wp2_with fail; have hr := HR0.out; have hg := HG0.out; have hbx := HB0.out
          refine (HN1.out _ hr).mono ?_
          rintro e wn ⟨rfl, hrn, hbn⟩; have hgn := grow_below hg hbn; have hbxn := hbx.keep hbn; clear hr hg hbx hbn; have hr := hrn; have hg := hgn; have hbx := hbxn; clear hrn hgn hbxn; go_wp2_with fail
          refine (HN2.out _ hr).mono ?_
          rintro e wn ⟨rfl, hrn, hbn⟩; have hgn := grow_below hg hbn; have hbxn := hbx.keep hbn; clear hr hg hbx hbn; have hr := hrn; have hg := hgn; have hbx := hbxn; clear hrn hgn hbxn; go_wp2_with fail
          refine (HN3.out _ hr).mono ?_
          rintro e wn ⟨rfl, hrn, hbn⟩; have hgn := grow_below hg hbn; have hbxn := hbx.keep hbn; clear hr hg hbx hbn; have hr := hrn; have hg := hgn; have hbx := hbxn; clear hrn hgn hbxn; go_wp2_with fail
          refine (HT2.out _ hr).mono ?_
          rintro e wn ⟨rfl, hrn, hbn⟩
          have hgn := grow_trans hg hbn
          have hbxn := hbx.grown hbn (by simp; omega)
          clear hr hg hbx hbn
          have hr := hrn
          have hg := hgn
          have hbx := hbxn
          clear hrn hgn hbxn
          obtain ⟨p0, p1, p2, p3, p4, p5, p6⟩ := hbx.c; have pf := hbx.f; have pl := hbx.lt; have HBX := hid hbx; have HR := hid hr; have HG := hid hg; clear hbx hr hg
          go_wp2_with fail
          refine bodyPost_ret (res_plain _ rfl (HBX.out.store _ _ _ _ _ _ _)) rfl ?_
          rw [HU.out]
          refine rout_close (N := w.heap.size + 1) (w3 := wn) ?_ HR.out hz HG.out (by omega) (stv_mk (nd_nil _ _) (ar_nil _ _) (ss_nil _ _) (ss_nil _ _))
          (repeat (first | with_reducible exact Mid.refl _ _ _ | (with_reducible refine Mid.set ?_ (by omega) (by omega) _)))
        · have HN4 := hid (fun W (hh : RS W gR gt cap T i d) => ptakes_no hh ok hi (u := [115, 107, 105, 112]) (by simp) k4)
          have HC1 := hid (fun W (hh : RS W gR gt cap T i d) => pcalls_any ok hh hi)
          have HU0 : Hid (plainR (tks T) F d i = if callsB (tks T) i = true then callR (tks T) F d [] i else (nameR (tks T) i).bind fun x j =>
            if (tks T j).t = [61] then (if callsB (tks T) (j + 1) = true then callR (tks T) F d x (j + 1) else (exprR (tks T) F d (j + 1)).bind fun e k => .ok (.mk 1 x [] e [] [] []) k) else .bad 4 j) := hid ((if_neg k1).trans ((if_neg k2).trans ((if_neg k3).trans (if_neg k4))))
          cases hcb : callsB (tks T) i
          · rw [hcb] at HC1
            have HU1 := hid (HU0.out.trans (if_neg (by rw [hcb]; simp)))
            by_cases hk : (tks T i).k = 1
            · have hm := ok.more hi (by rw [tks_get hi] at hk ⊢; exact ok.name i hi (.inl hk))
              have HN := hid (fun W (hh : RS W gR gt cap T i d) => pname_yes hh hi hk)
              have HU2 : Hid (plainR (tks T) F d i = if (tks T (i + 1)).t = [61] then (if callsB (tks T) (i + 1 + 1) = true then callR (tks T) F d (tks T i).t (i + 1 + 1) else (exprR (tks T) F d (i + 1 + 1)).bind fun e k => .ok (.mk 1 (tks T i).t [] e [] [] []) k) else .bad 4 (i + 1)) := hid (by rw [HU1.out]; unfold nameR; rw [if_pos hk]; rfl)
              by_cases k5 : (tks T (i + 1)).t = [61]
              · have hm2 := ok.more hm (by rw [k5]; simp)
                have HT5 := hid (fun W (hh : RS W gR gt cap T (i + 1) d) => ptake_yes hh ok hm (u := [61]) (by simp) k5)
                have HC2 := hid (fun W (hh : RS W gR gt cap T (i + 1 + 1) d) => pcalls_any ok hh hm2)
                have HU3 := hid (HU2.out.trans (if_pos k5))
                cases hcb2 : callsB (tks T) (i + 1 + 1)
                · rw [hcb2] at HC2
                  have HU := hid (HU3.out.trans (if_neg (by rw [hcb2]; simp)))
                  have HE := hid (fun W (hh : RS W gR gt cap T (i + 1 + 1) d) => pexpr_any ok hF hh hd hm2)
                  clear h k1 k2 k3 k4 k5 ok hF hi hm hm2 hk hcb hcb2 HU0 HU1 HU2 HU3
                  generalize hq : exprR (tks T) F d (i + 1 + 1) = q at *
                  clear hq
                  go_enter Tryd.func47, Tryd.ntmps47; go_wp2_with fail; have hr := HR0.out; have hg := HG0.out; have hbx := HB0.out
                  refine (HN1.out _ hr).mono ?_
                  rintro e wn ⟨rfl, hrn, hbn⟩; have hgn := grow_below hg hbn; have hbxn := hbx.keep hbn; clear hr hg hbx hbn; have hr := hrn; have hg := hgn; have hbx := hbxn; clear hrn hgn hbxn; go_wp2_with fail
                  refine (HN2.out _ hr).mono ?_
                  rintro e wn ⟨rfl, hrn, hbn⟩; have hgn := grow_below hg hbn; have hbxn := hbx.keep hbn; clear hr hg hbx hbn; have hr := hrn; have hg := hgn; have hbx := hbxn; clear hrn hgn hbxn; go_wp2_with fail
                  refine (HN3.out _ hr).mono ?_
                  rintro e wn ⟨rfl, hrn, hbn⟩; have hgn := grow_below hg hbn; have hbxn := hbx.keep hbn; clear hr hg hbx hbn; have hr := hrn; have hg := hgn; have hbx := hbxn; clear hrn hgn hbxn; go_wp2_with fail
                  refine (HN4.out _ hr).mono ?_
                  rintro e wn ⟨rfl, hrn, hbn⟩; have hgn := grow_below hg hbn; have hbxn := hbx.keep hbn; clear hr hg hbx hbn; have hr := hrn; have hg := hgn; have hbx := hbxn; clear hrn hgn hbxn; go_wp2_with fail
                  refine (HC1.out _ hr).mono ?_
                  rintro e wn ⟨rfl, hbn⟩
                  have hrn := hr.below hbn
                  have hgn := grow_below hg hbn
                  have hbxn := hbx.keep hbn
                  clear hr hg hbx hbn
                  have hr := hrn; have hg := hgn; have hbx := hbxn; clear hrn hgn hbxn; go_wp2_with fail
                  refine (HN.out _ hr).mono ?_
                  rintro e wn ⟨rfl, hrn, hbn⟩; have hgn := grow_trans hg hbn; have hbxn := hbx.grown hbn (by simp; omega); clear hr hg hbx hbn; have hr := hrn; have hg := hgn; have hbx := hbxn; clear hrn hgn hbxn; go_wp2_with fail
                  refine (HT5.out _ hr).mono ?_
                  rintro e wn ⟨rfl, hrn, hbn⟩; have hgn := grow_trans hg hbn; have hbxn := hbx.grown hbn (by simp; omega); clear hr hg hbx hbn; have hr := hrn; have hg := hgn; have hbx := hbxn; clear hrn hgn hbxn; go_wp2_with fail
                  refine (HC2.out _ hr).mono ?_
                  rintro e wn ⟨rfl, hbn⟩
                  have hrn := hr.below hbn
                  have hgn := grow_below hg hbn
                  have hbxn := hbx.keep hbn
                  clear hr hg hbx hbn
                  have hr := hrn; have hg := hgn; have hbx := hbxn; clear hrn hgn hbxn; go_wp2_with fail
                  refine (HE.out _ hr).mono ?_
                  intro e w3 h3
                  rcases rout_cases h3 with ⟨a, j, v, hq, rfl, ⟨ao, m, c, rfl, hv⟩, hr3, hg3⟩ | ⟨x, j, hq, hgo, hg3⟩
                  · subst hq
                    have hzz := hbx.lt
                    have HV := hid (SlF.move hv (same_to (M := w.heap.size + 1) (by omega)))
                    have hgn := grow_trans hg hg3
                    have hbxn := hbx.grown hg3 (by simp; omega)
                    clear hr hg hbx hg3 h3 hv
                    have hr := hr3
                    have hg := hgn
                    have hbx := hbxn
                    clear hr3 hgn hbxn
                    obtain ⟨p0, p1, p2, p3, p4, p5, p6⟩ := hbx.c; have pf := hbx.f; have pl := hbx.lt; have HBX := hid hbx; have HR := hid hr; have HG := hid hg; clear hbx hr hg
                    go_wp2_with fail
                    refine bodyPost_ret (res_plain _ rfl (HBX.out.store _ _ _ _ _ _ _)) rfl ?_
                    rw [HU.out]
                    refine rout_close (N := w.heap.size + 1) (w3 := w3) ?_ HR.out hz HG.out (by omega) (stv_mk HV.out (ar_nil _ _) (ss_nil _ _) (ss_nil _ _))
                    (repeat (first | with_reducible exact Mid.refl _ _ _ | (with_reducible refine Mid.set ?_ (by omega) (by omega) _)))
                  · unfold Gone at hgo
                    subst hgo
                    subst hq
                    refine ⟨rfl, ?_⟩
                    rw [HU.out]
                    exact ⟨rfl, grow_trans hg hg3⟩
                · rw [hcb2] at HC2
                  have HU := hid (HU3.out.trans (if_pos hcb2))
                  have HE := hid (fun W (hh : RS W gR gt cap T (i + 1 + 1) d) => pcall_any ok hF hh hd hm2 (tks T i).t)
                  clear h k1 k2 k3 k4 k5 ok hF hi hm hm2 hk hcb hcb2 HU0 HU1 HU2 HU3
                  generalize hq : callR (tks T) F d (tks T i).t (i + 1 + 1) = q at *
                  clear hq
                  go_enter Tryd.func47, Tryd.ntmps47; go_wp2_with fail; have hr := HR0.out; have hg := HG0.out; have hbx := HB0.out
                  refine (HN1.out _ hr).mono ?_
                  rintro e wn ⟨rfl, hrn, hbn⟩; have hgn := grow_below hg hbn; have hbxn := hbx.keep hbn; clear hr hg hbx hbn; have hr := hrn; have hg := hgn; have hbx := hbxn; clear hrn hgn hbxn; go_wp2_with fail
                  refine (HN2.out _ hr).mono ?_
                  rintro e wn ⟨rfl, hrn, hbn⟩; have hgn := grow_below hg hbn; have hbxn := hbx.keep hbn; clear hr hg hbx hbn; have hr := hrn; have hg := hgn; have hbx := hbxn; clear hrn hgn hbxn; go_wp2_with fail
                  refine (HN3.out _ hr).mono ?_
                  rintro e wn ⟨rfl, hrn, hbn⟩; have hgn := grow_below hg hbn; have hbxn := hbx.keep hbn; clear hr hg hbx hbn; have hr := hrn; have hg := hgn; have hbx := hbxn; clear hrn hgn hbxn; go_wp2_with fail
                  refine (HN4.out _ hr).mono ?_
                  rintro e wn ⟨rfl, hrn, hbn⟩; have hgn := grow_below hg hbn; have hbxn := hbx.keep hbn; clear hr hg hbx hbn; have hr := hrn; have hg := hgn; have hbx := hbxn; clear hrn hgn hbxn; go_wp2_with fail
                  refine (HC1.out _ hr).mono ?_
                  rintro e wn ⟨rfl, hbn⟩
                  have hrn := hr.below hbn
                  have hgn := grow_below hg hbn
                  have hbxn := hbx.keep hbn
                  clear hr hg hbx hbn
                  have hr := hrn; have hg := hgn; have hbx := hbxn; clear hrn hgn hbxn; go_wp2_with fail
                  refine (HN.out _ hr).mono ?_
                  rintro e wn ⟨rfl, hrn, hbn⟩; have hgn := grow_trans hg hbn; have hbxn := hbx.grown hbn (by simp; omega); clear hr hg hbx hbn; have hr := hrn; have hg := hgn; have hbx := hbxn; clear hrn hgn hbxn; go_wp2_with fail
                  refine (HT5.out _ hr).mono ?_
                  rintro e wn ⟨rfl, hrn, hbn⟩; have hgn := grow_trans hg hbn; have hbxn := hbx.grown hbn (by simp; omega); clear hr hg hbx hbn; have hr := hrn; have hg := hgn; have hbx := hbxn; clear hrn hgn hbxn; go_wp2_with fail
                  refine (HC2.out _ hr).mono ?_
                  rintro e wn ⟨rfl, hbn⟩
                  have hrn := hr.below hbn
                  have hgn := grow_below hg hbn
                  have hbxn := hbx.keep hbn
                  clear hr hg hbx hbn
                  have hr := hrn; have hg := hgn; have hbx := hbxn; clear hrn hgn hbxn; go_wp2_with fail
                  refine (HE.out _ hr).mono ?_
                  intro e w3 h3
                  rcases rout_cases h3 with ⟨a, j, v, hq, rfl, hv, hr3, hg3⟩ | ⟨x, j, hq, hgo, hg3⟩
                  · subst hq
                    have hzz := hbx.lt
                    obtain ⟨kk, n1, n2, ae, aa, ab, al, me, ce, ma, ca, mb, cb, ml, cl, rfl⟩ := stv_form hv
                    have HV := hid (stv_move (same_to (M := w.heap.size + 1) (by omega)) _ _ hv)
                    have hgn := grow_trans hg hg3
                    have hbxn := hbx.grown hg3 (by simp; omega)
                    clear hr hg hbx hg3 h3 hv
                    have hr := hr3
                    have hg := hgn
                    have hbx := hbxn
                    clear hr3 hgn hbxn
                    obtain ⟨p0, p1, p2, p3, p4, p5, p6⟩ := hbx.c; have pf := hbx.f; have pl := hbx.lt; have HBX := hid hbx; have HR := hid hr; have HG := hid hg; clear hbx hr hg
                    go_wp2_with fail
                    refine bodyPost_ret (res_plain _ rfl (HBX.out.store _ _ _ _ _ _ _)) rfl ?_
                    rw [HU.out]
                    refine rout_close (N := w.heap.size + 1) (w3 := w3) ?_ HR.out hz HG.out (by omega) HV.out
                    (repeat (first | with_reducible exact Mid.refl _ _ _ | (with_reducible refine Mid.set ?_ (by omega) (by omega) _)))
                  · unfold Gone at hgo
                    subst hgo
                    subst hq
                    refine ⟨rfl, ?_⟩
                    rw [HU.out]
                    exact ⟨rfl, grow_trans hg hg3⟩
              · have HT5 := hid (fun W (hh : RS W gR gt cap T (i + 1) d) => ptake_no hh ok hm (u := [61]) (by simp) k5)
                have HU := hid (HU2.out.trans (if_neg k5))
                clear h k1 k2 k3 k4 k5 ok hF hi hm hk hcb HU0 HU1 HU2
                go_enter Tryd.func47, Tryd.ntmps47; go_wp2_with fail; have hr := HR0.out; have hg := HG0.out; have hbx := HB0.out
                refine (HN1.out _ hr).mono ?_
                rintro e wn ⟨rfl, hrn, hbn⟩; have hgn := grow_below hg hbn; have hbxn := hbx.keep hbn; clear hr hg hbx hbn; have hr := hrn; have hg := hgn; have hbx := hbxn; clear hrn hgn hbxn; go_wp2_with fail
                refine (HN2.out _ hr).mono ?_
                rintro e wn ⟨rfl, hrn, hbn⟩; have hgn := grow_below hg hbn; have hbxn := hbx.keep hbn; clear hr hg hbx hbn; have hr := hrn; have hg := hgn; have hbx := hbxn; clear hrn hgn hbxn; go_wp2_with fail
                refine (HN3.out _ hr).mono ?_
                rintro e wn ⟨rfl, hrn, hbn⟩; have hgn := grow_below hg hbn; have hbxn := hbx.keep hbn; clear hr hg hbx hbn; have hr := hrn; have hg := hgn; have hbx := hbxn; clear hrn hgn hbxn; go_wp2_with fail
                refine (HN4.out _ hr).mono ?_
                rintro e wn ⟨rfl, hrn, hbn⟩; have hgn := grow_below hg hbn; have hbxn := hbx.keep hbn; clear hr hg hbx hbn; have hr := hrn; have hg := hgn; have hbx := hbxn; clear hrn hgn hbxn; go_wp2_with fail
                refine (HC1.out _ hr).mono ?_
                rintro e wn ⟨rfl, hbn⟩
                have hrn := hr.below hbn
                have hgn := grow_below hg hbn
                have hbxn := hbx.keep hbn
                clear hr hg hbx hbn
                have hr := hrn; have hg := hgn; have hbx := hbxn; clear hrn hgn hbxn; go_wp2_with fail
                refine (HN.out _ hr).mono ?_
                rintro e wn ⟨rfl, hrn, hbn⟩; have hgn := grow_trans hg hbn; have hbxn := hbx.grown hbn (by simp; omega); clear hr hg hbx hbn; have hr := hrn; have hg := hgn; have hbx := hbxn; clear hrn hgn hbxn; go_wp2_with fail
                refine (HT5.out _ hr).mono ?_
                rintro e wn ⟨hgn, hbn⟩
                unfold Gone at hgn
                subst hgn
                refine ⟨rfl, ?_⟩
                rw [HU.out]
                exact ⟨rfl, grow_below hg hbn⟩
            · have HN := hid (fun W (hh : RS W gR gt cap T i d) => pname_no hh hi hk)
              have HU : Hid (plainR (tks T) F d i = .bad 4 i) := hid (by rw [HU1.out]; unfold nameR; rw [if_neg hk]; rfl)
              clear h k1 k2 k3 k4 ok hF hi hk hcb HU0 HU1
              go_enter Tryd.func47, Tryd.ntmps47; go_wp2_with fail; have hr := HR0.out; have hg := HG0.out; have hbx := HB0.out
              refine (HN1.out _ hr).mono ?_
              rintro e wn ⟨rfl, hrn, hbn⟩; have hgn := grow_below hg hbn; have hbxn := hbx.keep hbn; clear hr hg hbx hbn; have hr := hrn; have hg := hgn; have hbx := hbxn; clear hrn hgn hbxn; go_wp2_with fail
              refine (HN2.out _ hr).mono ?_
              rintro e wn ⟨rfl, hrn, hbn⟩; have hgn := grow_below hg hbn; have hbxn := hbx.keep hbn; clear hr hg hbx hbn; have hr := hrn; have hg := hgn; have hbx := hbxn; clear hrn hgn hbxn; go_wp2_with fail
              refine (HN3.out _ hr).mono ?_
              rintro e wn ⟨rfl, hrn, hbn⟩; have hgn := grow_below hg hbn; have hbxn := hbx.keep hbn; clear hr hg hbx hbn; have hr := hrn; have hg := hgn; have hbx := hbxn; clear hrn hgn hbxn; go_wp2_with fail
              refine (HN4.out _ hr).mono ?_
              rintro e wn ⟨rfl, hrn, hbn⟩; have hgn := grow_below hg hbn; have hbxn := hbx.keep hbn; clear hr hg hbx hbn; have hr := hrn; have hg := hgn; have hbx := hbxn; clear hrn hgn hbxn; go_wp2_with fail
              refine (HC1.out _ hr).mono ?_
              rintro e wn ⟨rfl, hbn⟩
              have hrn := hr.below hbn
              have hgn := grow_below hg hbn
              have hbxn := hbx.keep hbn
              clear hr hg hbx hbn
              have hr := hrn; have hg := hgn; have hbx := hbxn; clear hrn hgn hbxn; go_wp2_with fail
              refine (HN.out _ hr).mono ?_
              rintro e wn ⟨hgn, hbn⟩
              unfold Gone at hgn
              subst hgn
              refine ⟨rfl, ?_⟩
              rw [HU.out]
              exact ⟨rfl, grow_below hg hbn⟩
          · rw [hcb] at HC1
            have HU := hid (HU0.out.trans (if_pos hcb))
            have HE := hid (fun W (hh : RS W gR gt cap T i d) => pcall_any ok hF hh hd hi [])
            clear h k1 k2 k3 k4 ok hF hi hcb HU0
            generalize hq : callR (tks T) F d [] i = q at *
            clear hq
            go_enter Tryd.func47, Tryd.ntmps47; go_wp2_with fail; have hr := HR0.out; have hg := HG0.out; have hbx := HB0.out
            refine (HN1.out _ hr).mono ?_
            rintro e wn ⟨rfl, hrn, hbn⟩; have hgn := grow_below hg hbn; have hbxn := hbx.keep hbn; clear hr hg hbx hbn; have hr := hrn; have hg := hgn; have hbx := hbxn; clear hrn hgn hbxn; go_wp2_with fail
            refine (HN2.out _ hr).mono ?_
            rintro e wn ⟨rfl, hrn, hbn⟩; have hgn := grow_below hg hbn; have hbxn := hbx.keep hbn; clear hr hg hbx hbn; have hr := hrn; have hg := hgn; have hbx := hbxn; clear hrn hgn hbxn; go_wp2_with fail
            refine (HN3.out _ hr).mono ?_
            rintro e wn ⟨rfl, hrn, hbn⟩; have hgn := grow_below hg hbn; have hbxn := hbx.keep hbn; clear hr hg hbx hbn; have hr := hrn; have hg := hgn; have hbx := hbxn; clear hrn hgn hbxn; go_wp2_with fail
            refine (HN4.out _ hr).mono ?_
            rintro e wn ⟨rfl, hrn, hbn⟩; have hgn := grow_below hg hbn; have hbxn := hbx.keep hbn; clear hr hg hbx hbn; have hr := hrn; have hg := hgn; have hbx := hbxn; clear hrn hgn hbxn; go_wp2_with fail
            refine (HC1.out _ hr).mono ?_
            rintro e wn ⟨rfl, hbn⟩
            have hrn := hr.below hbn
            have hgn := grow_below hg hbn
            have hbxn := hbx.keep hbn
            clear hr hg hbx hbn
            have hr := hrn; have hg := hgn; have hbx := hbxn; clear hrn hgn hbxn; go_wp2_with fail
            refine (HE.out _ hr).mono ?_
            intro e w3 h3
            rcases rout_cases h3 with ⟨a, j, v, hq, rfl, hv, hr3, hg3⟩ | ⟨x, j, hq, hgo, hg3⟩
            · subst hq
              have hzz := hbx.lt
              obtain ⟨kk, n1, n2, ae, aa, ab, al, me, ce, ma, ca, mb, cb, ml, cl, rfl⟩ := stv_form hv
              have HV := hid (stv_move (same_to (M := w.heap.size + 1) (by omega)) _ _ hv)
              have hgn := grow_trans hg hg3
              have hbxn := hbx.grown hg3 (by simp; omega)
              clear hr hg hbx hg3 h3 hv
              have hr := hr3
              have hg := hgn
              have hbx := hbxn
              clear hr3 hgn hbxn
              obtain ⟨p0, p1, p2, p3, p4, p5, p6⟩ := hbx.c; have pf := hbx.f; have pl := hbx.lt; have HBX := hid hbx; have HR := hid hr; have HG := hid hg; clear hbx hr hg
              go_wp2_with fail
              refine bodyPost_ret (res_plain _ rfl (HBX.out.store _ _ _ _ _ _ _)) rfl ?_
              rw [HU.out]
              refine rout_close (N := w.heap.size + 1) (w3 := w3) ?_ HR.out hz HG.out (by omega) HV.out
              (repeat (first | with_reducible exact Mid.refl _ _ _ | (with_reducible refine Mid.set ?_ (by omega) (by omega) _)))
            · unfold Gone at hgo
              subst hgo
              subst hq
              refine ⟨rfl, ?_⟩
              rw [HU.out]
              exact ⟨rfl, grow_trans hg hg3⟩
end
end Go.Proofs.YtjofhaakkleecaaDoor
