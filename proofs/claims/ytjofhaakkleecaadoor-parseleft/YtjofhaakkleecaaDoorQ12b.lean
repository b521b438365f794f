/-
  Walks: what stands in brackets, parted by commas: expressions.
-/
import Derived.Test.YtjofhaakkleecaaDoorQ11
namespace Go.Proofs.YtjofhaakkleecaaDoor
open Go.RowKit Lx
set_option linter.unusedSimpArgs false
set_option linter.unusedVariables false
set_option maxRecDepth 100000

theorem Tryd.info_nd : (Tryd.prog.info? 40).map (fun i => (i.zero, i.size, i.bytes)) = some (some (.slice none 0 0), 1, 24) := by kernel_rfl
def NdQ (w : World) (ok : Nat → Prop) (a : List Nd) (v : Value) : Prop := NdV w ok a v
theorem ndq_move {w w' : World} {ok ok' : Nat → Prop} {a : List Nd} {v : Value} (h : NdQ w ok a v) (hs : Same w w' ok ok') : NdQ w' ok' a v := NdV.move h hs

/-- What stands at the head of a round. -/
def ListRel_nd (w : World) (gR gt cap : Nat) (T : List Tk) (d F : Nat) (one : Nat → R (List Nd)) (A0 : List (List Nd)) (j0 : Nat) (M : Nat) (lv : Value) (wr : World) : Prop :=
  ∃ A vs j m ao mm cc, lv = .slice ao mm cc ∧ Hid (M = T.length - j) ∧ OwnV wr w.heap.size 40 1 lv vs ∧ AllV (NdQ wr (fun b => w.heap.size ≤ b ∧ lv.ownBlock ≠ some b)) A vs ∧ RS wr gR gt cap T j d ∧ w.grownBy wr (some gR) ∧ j < T.length ∧ j0 ≤ j ∧ A.length ≤ j ∧ T.length ≤ j + m ∧ Hid (listMore (tks T) one F A0 j0 = listMore (tks T) one m A j)
theorem all_len_nd {w : World} {ok : Nat → Prop} : ∀ {A : List (List Nd)} {C : List (List Value)}, AllV (NdQ w ok) A C → ∀ c ∈ C, c.length = 1
  | [], [], _, c, hc => by simp at hc
  | a :: A, d :: C, ⟨⟨v, e, _⟩, h2⟩, c, hc => by
    rcases List.mem_cons.1 hc with rfl | hc
    · rw [e]; rfl
    · exact all_len_nd h2 c hc
  | [], _ :: _, h, _, _ => h.elim
  | _ :: _, [], h, _, _ => h.elim
set_option maxHeartbeats 1600000 in
theorem plisted_nd {T : List Tk} (ok : Tks.Ok T) {F d : Nat} (hF : T.length ≤ F) (hd : d ≤ 50) {one : Nat → R (List Nd)} (hone : ∀ i, i < T.length → FineR T i (one i)) (w : World) (gR gt cap i : Nat) (h : RS w gR gt cap T i d) (hi : i < T.length)
    (HC : ∀ (W : World) (j : Nat), RS W gR gt cap T j d → j < T.length → Calls Tryd.prog 54 #[.pointer (some ⟨gR, 0, none⟩)] W (ROut W gR gt cap T d (fun ok w' a v => NdQ w' ok a v) (one j))) :
    Calls Tryd.prog 58 #[.pointer (some ⟨gR, 0, none⟩), .func (.func 54) #[.pointer (some ⟨gR, 0, none⟩)] #[]] w (ROut w gR gt cap T d (fun ok w' A v => ∃ ao m cap, v = .slice ao m cap ∧ ∃ vs, SlF w' ok 1 ao m cap vs ∧ AllV (NdQ w' ok) A vs) (listR (tks T) F one i)) := by
  have HOK := hid ok
  have HCC := hid HC
  have HO := hid hone
  have HFF := hid hF
  have hz := h.box.lt
  by_cases k1 : (tks T i).t = [40]
  · have HT1 := hid (ptake_yes h ok hi (u := [40]) (by simp) k1)
    have hm := ok.more hi (by rw [k1]; simp)
    by_cases k2 : (tks T (i + 1)).t = [41]
    · have HT2 := hid (fun W (hh : RS W gR gt cap T (i + 1) d) => ptakes_yes hh ok hm (u := [41]) (by simp) k2)
      have HU : Hid (listR (tks T) F one i = .ok [] (i + 2)) := hid ((if_pos k1).trans (if_pos k2))
      clear h hi HC hone ok k1 k2 hF
      go_enter Tryd.func58, Tryd.ntmps58
      go_wp2_with fail
      refine HT1.out.mono ?_
      rintro e w1 ⟨rfl, hr1, hg1⟩
      go_wp2_with fail
      refine (HT2.out _ hr1).mono ?_
      rintro e w2 ⟨rfl, hr2, hg2⟩
      go_wp2_with fail
      go_ret
      rw [HU.out]
      exact ⟨⟨_, rfl, none, 0, 0, rfl, [], ⟨rfl, Nat.le_refl _, by unfold maxLen; omega, .inl rfl⟩, trivial⟩, hr2, grow_trans hg1 hg2⟩
    · have HT2 := hid (fun W (hh : RS W gR gt cap T (i + 1) d) => ptakes_no hh ok hm (u := [41]) (by simp) k2)
      have HU1 : Hid (listR (tks T) F one i = (one (i + 1)).bind fun a j => (listMore (tks T) one F [a] j).bind fun l k => takeR (tks T) [41] l k) := hid ((if_pos k1).trans (if_neg k2))
      have HON := hid (hone (i + 1) hm)
      have HC1 := hid (fun W hh => HC W (i + 1) hh hm)
      clear h hi HC hone ok k1 k2 hF
      generalize hq : one (i + 1) = q at *
      clear hq
      go_enter Tryd.func58, Tryd.ntmps58
      go_wp2_with fail
      refine HT1.out.mono ?_
      rintro e w1 ⟨rfl, hr1, hg1⟩
      go_wp2_with fail
      refine (HT2.out _ hr1).mono ?_
      rintro e w2 ⟨rfl, hr2, hb2⟩
      have HG2 := hid (grow_below hg1 hb2)
      clear hg1 hb2
      go_wp2_with fail
      refine (HC1.out _ hr2).mono ?_
      intro e w3 h3
      rcases rout_cases h3 with ⟨a0, j0, v0, hr, rfl, hv, hr3, hg3⟩ | ⟨x0, j0, hr, hg, hg3⟩
      · subst hr
        have HON2 : Hid (i + 1 < j0 ∧ j0 < T.length) := HON
        have HU : Hid (listR (tks T) F one i = (listMore (tks T) one F [a0] j0).bind fun l k => takeR (tks T) [41] l k) := hid (HU1.out.trans rfl)
        have HG3 := hid (grow_trans HG2.out hg3)
        have HS2 := hid HG2.out.size
        obtain ⟨ao0, m0, c0, rfl, hf0⟩ := hv; have hv : NdQ w3 (fun b => w2.heap.size ≤ b) a0 (.slice ao0 m0 c0) := ⟨ao0, m0, c0, rfl, hf0⟩; clear hf0
        have HV0 := hid hv
        have HR3 := hid hr3
        have hz3 : w.heap.size ≤ w3.heap.size := HG3.out.size
        have HZ3 := hid hz3
        clear h3 HU1 hr2 hr3 hg3 hv HG2 HC1 hz3
        go_wp2_with fail
        have hw4 : Below w3.heap.size w3 (w3.alloc (.cells #[.slice ao0 m0 c0] 40)) := (Below.refl _ _).alloc (Nat.le_refl _) _
        have HW4 := hid hw4
        have HR4 := hid (HR3.out.below hw4)
        have HG4 := hid (grow_below HG3.out hw4)
        have HOW := hid (own_new w3 w.heap.size 40 [.slice ao0 m0 c0] HZ3.out)
        clear hw4
        go_loopg [5] (T.length - j0) (fun M lv wr => ListRel_nd w gR gt cap T d F one [a0] j0 M lv wr)
        case atStart => exact ⟨[a0], [[.slice ao0 m0 c0]], j0, F, _, _, _, rfl, hid rfl, HOW.out, ⟨⟨_, rfl, (ndq_move HV0.out ⟨HW4.out.size, fun b hb hk => ⟨HW4.out.block b hb, by have := HS2.out; omega, by simp [Value.ownBlock]; omega⟩⟩)⟩, trivial⟩, HR4.out, HG4.out, HON2.out.2, Nat.le_refl _, by have := HON2.out; simp; omega, by have := HFF.out; omega, hid rfl⟩
        case round =>
          obtain ⟨A, vs, j, m, ao, mm, cc, rfl, HM, hown, hall, hrs, hgr, hj, hjj, hAj, hm2, HMR⟩ := hrel
          obtain ⟨m', rfl⟩ : ∃ m', m = m' + 1 := ⟨m - 1, by omega⟩
          by_cases k3 : (tks T j).t = [44]
          · have hm3 := HOK.out.more hj (by rw [k3]; simp)
            have HT3 := hid (ptakes_yes hrs HOK.out hj (u := [44]) (by simp) k3)
            have HMR2 : Hid (listMore (tks T) one F [a0] j0 = (one (j + 1)).bind fun a l => listMore (tks T) one m' (A ++ [a]) l) := hid (HMR.out.trans (if_pos k3))
            have HONj := hid (HO.out (j + 1) hm3)
            have HCj := hid (fun W hh => HCC.out W (j + 1) hh hm3)
            have HOWj := hid hown
            have HALj := hid hall
            have HGj := hid hgr
            have HA1 := hid hjj
            have HA2 := hid hAj
            have HA3 := hid hm2
            have HJ := hid hj
            clear hown hall hrs hgr hjj hAj hm2 HMR k3 hj HOW HR4 HG4 HW4
            generalize hq2 : one (j + 1) = q2 at *
            clear hq2
            go_wp2_with fail
            refine HT3.out.mono ?_
            rintro e w5 ⟨rfl, hr5, hg5⟩
            have HG5 := hid (grow_trans HGj.out hg5)
            have HOW5 := hid (HOWj.out.kept hg5 (by intro g e; simp at e; omega))
            have HAL5 := hid (HALj.out.imp fun a v h => (ndq_move h (same_read hg5 hz)))
            clear hg5
            go_wp2_with fail
            refine (HCj.out _ hr5).mono ?_
            intro e w6 h6
            rcases rout_cases h6 with ⟨a1, j1, v1, hr, rfl, hv, hr6, hg6⟩ | ⟨x1, j1, hr, hg, hg6⟩
            · subst hr
              have HON3 : Hid (j + 1 < j1 ∧ j1 < T.length) := HONj
              have HMR3 : Hid (listMore (tks T) one F [a0] j0 = listMore (tks T) one m' (A ++ [a1]) j1) := hid (HMR2.out.trans rfl)
              have HG6 := hid (grow_trans HG5.out hg6)
              have hbl := World.ownsRow.lt HOW5.out
              have HOW6 := hid (HOW5.out.kept hg6 (by intro g e; simp at e; omega))
              have HAL6 := hid (HAL5.out.imp fun a v h => (ndq_move h (same_read hg6 hz)))
              obtain ⟨ao1, m1, c1, rfl, hf1⟩ := hv; have hv : NdQ w6 (fun b => w5.heap.size ≤ b) a1 (.slice ao1 m1 c1) := ⟨ao1, m1, c1, rfl, hf1⟩; clear hf1
              have HV1 := hid (ndq_move hv (ok' := fun b => w.heap.size ≤ b ∧ (Value.slice ao mm cc).ownBlock ≠ some b) ⟨Nat.le_refl _, fun b hb hk => ⟨rfl, by have := HG5.out.size; omega, fun e => by have := hbl b e; omega⟩⟩)
              have hw7 : Below w6.heap.size w6 (w6.alloc (.cells #[.slice ao1 m1 c1] 40)) := (Below.refl _ _).alloc (Nat.le_refl _) _
              have HW7 := hid hw7
              have HR7 := hid (hr6.below hw7)
              have HG7 := hid (grow_below HG6.out hw7)
              have HOW7 := hid (HOW6.out.below hw7)
              have hsw : Same w6 (w6.alloc (.cells #[.slice ao1 m1 c1] 40)) (fun b => w.heap.size ≤ b ∧ (Value.slice ao mm cc).ownBlock ≠ some b) (fun b => w.heap.size ≤ b ∧ (Value.slice ao mm cc).ownBlock ≠ some b) := ⟨hw7.size, fun b hb hk => ⟨hw7.block b hb, hk⟩⟩
              have HAL7 := hid (HAL6.out.imp fun a v h => (ndq_move h hsw))
              have HV7 := hid (ndq_move HV1.out hsw)
              have HNW : Hid (CellsAt (w6.alloc (.cells #[.slice ao1 m1 c1] 40)) w6.heap.size 0 [.slice ao1 m1 c1]) := hid (by
                intro c u hu
                have e' := cell_of_row (w6.alloc (.cells #[.slice ao1 m1 c1] 40)) w6.heap.size c #[.slice ao1 m1 c1] _ _ (heap_alloc_new w6 _)
                rw [Nat.zero_add, e', ← hu]
                simp)
              have HVL : Hid (vs.length ≤ 1000000) := hid (by have := HAL7.out.len; have := HA2.out; have := HJ.out; have := HR7.out.len; omega)
              have HBS : Hid (w.heap.size ≤ (w6.alloc (.cells #[.slice ao1 m1 c1] 40)).heap.size) := hid HG7.out.size
              have HOL : Hid (∀ g, (Value.slice ao mm cc).ownBlock = some g → w.heap.size ≤ g ∧ g < w6.heap.size) := hid (fun g e => World.ownsRow.lt HOW6.out g e)
              clear h6 hr5 hr6 hg6 hv hbl hw7 hsw HOW5 HAL5 HOW6 HAL6 HV1 HCj HT3 HG5 HGj HOWj HALj
              go_wp2_with (at_builtin; go_must (refine wpList_append_vl 46 40 1 24 _ Tryd.underlying46 Tryd.info_nd rfl (by decide) (by decide) rfl (.tmp 15) (.tmp 18) rfl w.heap.size _ vs rfl HOW7.out w6.heap.size 1 [.slice ao1 m1 c1] rfl rfl HNW.out (by intro u hu; simp at hu; subst hu; rfl) HVL.out HBS.out ?_); intro g7 m7 c7 w7 hown7 hg7 hl7; have HOW8 := hid hown7; have HG8 := hid hg7; have HL8 := hid hl7; clear hown7 hg7 hl7)
              go_roundg (T.length - j1)
              case measure => have h1 := HON3.out; have h2 := HM.out; omega
              case rel =>
                have hsa := same_app (B := w.heap.size) HG8.out HL8.out
                have hRne : ∀ b, b < w.heap.size → some b ≠ (Value.slice ao mm cc).ownBlock := fun b hb e => by have := HOL.out b e.symm; omega
                have hzb := HR7.out.box.lt
                have hlt2 := HR7.out.lt
                have hzs := HBS.out
                refine ⟨A ++ [a1], vs ++ [[.slice ao1 m1 c1]], j1, m', _, _, _, rfl, hid rfl, HOW8.out, ?_, ?_, ?_, HON3.out.2, by have := HON3.out; have := HA1.out; omega, by have := HON3.out; have := HA2.out; simp; omega, by have := HON3.out; have := HA3.out; omega, HMR3⟩
                · refine AllV.snoc ?_ ?_
                  · exact (ndq_move HV7.out ⟨hsa.1, fun b hb hk => ⟨(hsa.2 b hb hk).1, (hsa.2 b hb hk).2.1, fun e => (hsa.2 b hb hk).2.2 (by simpa [Value.ownBlock] using e)⟩⟩)
                  · exact HAL7.out.imp fun a v h => (ndq_move h ⟨hsa.1, fun b hb hk => ⟨(hsa.2 b hb hk).1, (hsa.2 b hb hk).2.1, fun e => (hsa.2 b hb hk).2.2 (by simpa [Value.ownBlock] using e)⟩⟩)
                · exact HR7.out.at (HG8.out.block gt (by omega) (hRne gt (by omega))) (HR7.out.box.at (HG8.out.block gR hzb (hRne gR hz)))
                · exact ⟨HG8.out.os.trans HG7.out.os, HG8.out.tape.trans HG7.out.tape, HG8.out.output.trans HG7.out.output, Nat.le_trans HG7.out.size HG8.out.size, fun k hk hne => (HG8.out.block k (Nat.lt_of_lt_of_le hk HG7.out.size) (hRne k hk)).trans (HG7.out.block k hk hne)⟩
            · unfold Gone at hg
              subst hg
              subst hr
              refine ⟨rfl, ?_⟩
              rw [HU.out, HMR2.out]
              exact ⟨rfl, grow_trans HG5.out hg6⟩
          · have HT3 := hid (ptakes_no hrs HOK.out hj (u := [44]) (by simp) k3)
            have HMR2 : Hid (listMore (tks T) one F [a0] j0 = .ok A j) := hid (HMR.out.trans (if_neg k3))
            have HOWj := hid hown
            have HALj := hid hall
            have HGj := hid hgr
            have HJ := hid hj
            clear hown hall hrs hgr hjj hAj hm2 HMR k3 hj HOW HR4 HG4 HW4
            by_cases k4 : (tks T j).t = [41]
            · have HT4 := hid (fun W (hh : RS W gR gt cap T j d) => ptake_yes hh HOK.out HJ.out (u := [41]) (by simp) k4)
              have HU5 : Hid (listR (tks T) F one i = .ok A (j + 1)) := hid (by rw [HU.out, HMR2.out]; exact if_pos k4)
              clear k4
              go_wp2_with fail
              refine HT3.out.mono ?_
              rintro e w5 ⟨rfl, hr5, hb5⟩
              go_wp2_with fail
              refine (HT4.out _ hr5).mono ?_
              rintro e w6 ⟨rfl, hr6, hg6⟩
              have HG6 := hid (grow_trans (grow_below HGj.out hb5) hg6)
              have HOW5 := hid ((HOWj.out.below hb5).kept hg6 (by intro g e; simp at e; omega))
              have hs5 : Same wr w6 (fun b => w.heap.size ≤ b ∧ (Value.slice ao mm cc).ownBlock ≠ some b) (fun b => w.heap.size ≤ b) := ⟨Nat.le_trans hb5.size hg6.size, fun b hb hk => ⟨(hg6.block b (Nat.lt_of_lt_of_le hb hb5.size) (by simp; omega)).trans (hb5.block b hb), hk.1⟩⟩
              have HAL6 := hid (HALj.out.imp fun a v h => (ndq_move h hs5))
              have HR6 := hid hr6
              clear hr5 hb5 hr6 hg6 hs5
              go_wp2_with fail
              go_ret
              rw [HU5.out]
              exact ⟨⟨_, rfl, _, _, _, rfl, vs, HOW5.out.slf (all_len_nd HAL6.out), HAL6.out⟩, HR6.out, HG6.out⟩
            · have HT4 := hid (fun W (hh : RS W gR gt cap T j d) => ptake_no hh HOK.out HJ.out (u := [41]) (by simp) k4)
              have HU5 : Hid (listR (tks T) F one i = .bad 4 j) := hid (by rw [HU.out, HMR2.out]; exact if_neg k4)
              clear k4
              go_wp2_with fail
              refine HT3.out.mono ?_
              rintro e w5 ⟨rfl, hr5, hb5⟩
              go_wp2_with fail
              refine (HT4.out _ hr5).mono ?_
              rintro e w6 ⟨hg, hb6⟩
              unfold Gone at hg
              subst hg
              refine ⟨rfl, ?_⟩
              rw [HU5.out]
              exact ⟨rfl, grow_below (grow_below HGj.out hb5) hb6⟩
      · unfold Gone at hg
        subst hg
        subst hr
        refine ⟨rfl, ?_⟩
        rw [HU1.out]
        exact ⟨rfl, grow_trans HG2.out hg3⟩
  · have HT1 := hid (ptake_no h ok hi (u := [40]) (by simp) k1)
    have HU : Hid (listR (tks T) F one i = .bad 4 i) := hid (if_neg k1)
    clear h hi HC hone ok k1 hF
    go_enter Tryd.func58, Tryd.ntmps58
    go_wp2_with fail
    refine HT1.out.mono ?_
    rintro e w1 ⟨hg, hb1⟩
    unfold Gone at hg
    subst hg
    refine ⟨rfl, ?_⟩
    rw [HU.out]
    exact ⟨rfl, grow_below (grow_refl _ _) hb1⟩
end Go.Proofs.YtjofhaakkleecaaDoor
