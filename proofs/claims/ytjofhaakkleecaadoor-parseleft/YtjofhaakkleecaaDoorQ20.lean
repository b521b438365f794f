/-
  Walks: procedures.
-/
import Derived.Test.YtjofhaakkleecaaDoorQ19
namespace Go.Proofs.YtjofhaakkleecaaDoor
open Go.RowKit Lx
set_option linter.unusedSimpArgs false
set_option linter.unusedVariables false
set_option maxRecDepth 100000

/-- What stands at the head of a round of the variables. -/
def VarsRel (w ws : World) (b2 b3 gR gt cap : Nat) (T : List Tk) (F j0 : Nat) (nm rs : ByteArray) (ap : Option Addr) (mp cp : Nat) (M : Nat) (wr : World) : Prop :=
  ∃ A vs j m av mv cv, Hid (M = T.length - j) ∧ Box5 wr b3 (.string nm) (.slice ap mp cp) (.string rs) (.slice av mv cv) (.slice none 0 0) ∧ Box5 wr b2 (.string ⟨#[]⟩) (.slice none 0 0) (.string ⟨#[]⟩) (.slice none 0 0) (.slice none 0 0) ∧
    OwnV wr ws.heap.size 9 1 (.slice av mv cv) vs ∧ AllV (TxQ wr (fun _ => True)) A vs ∧ RS wr gR gt cap T j 0 ∧ w.grownBy wr (some gR) ∧ ws.heap.size ≤ wr.heap.size ∧ (∀ b, b < ws.heap.size → b ≠ gR → b ≠ b3 → wr.heap[b]? = ws.heap[b]?) ∧ j < T.length ∧ j0 ≤ j ∧ A.length ≤ j ∧ T.length ≤ j + m ∧ Hid (varsM (tks T) F [] j0 = varsM (tks T) m A j)
section
variable {T : List Tk}
set_option maxHeartbeats 6400000 in
theorem pproc_any (ok : Tks.Ok T) {F : Nat} (hF : T.length ≤ F) (w : World) (gR gt cap i : Nat) (h : RS w gR gt cap T i 0) (hi : i < T.length) :
    Calls Tryd.prog 18 #[.pointer (some ⟨gR, 0, none⟩)] w (ROut w gR gt cap T 0 (fun ok w' p v => PrV w' ok p v) (procR (tks T) F i)) := by
  have hz := h.box.lt
  have hz2 := h.lt
  have HR0 := hid (h.below ((Below.refl _ _).alloc (Nat.le_refl _) (.cells #[.string ⟨#[]⟩, .slice none 0 0, .string ⟨#[]⟩, .slice none 0 0, .slice none 0 0] 45)))
  have HG0 := hid (grow_alloc (grow_refl w (some gR)) (.cells #[.string ⟨#[]⟩, .slice none 0 0, .string ⟨#[]⟩, .slice none 0 0, .slice none 0 0] 45))
  have HB0 := hid (Box5.new w (.string ⟨#[]⟩) (.slice none 0 0) (.string ⟨#[]⟩) (.slice none 0 0) (.slice none 0 0) 45)
  have HOK := hid ok
  have HFF := hid hF
  by_cases k1 : (tks T i).t = [112, 114, 111, 99]
  rotate_left
  · have HT := hid (ptake_no HR0.out ok hi (u := [112, 114, 111, 99]) (by simp) k1)
    have HU : Hid (procR (tks T) F i = .bad 4 i) := hid (by unfold procR takeR; rw [if_neg k1]; rfl)
    clear h k1 ok hF hi
    go_enter Tryd.func18, Tryd.ntmps18
    go_wp2_with fail
    refine HT.out.mono ?_
    rintro e w1 ⟨hg, hb1⟩
    unfold Gone at hg
    subst hg
    refine ⟨rfl, ?_⟩
    rw [HU.out]
    exact ⟨rfl, grow_below HG0.out hb1⟩
  have hm := ok.more hi (by rw [k1]; simp)
  have HT := hid (ptake_yes HR0.out ok hi (u := [112, 114, 111, 99]) (by simp) k1)
  have HU1 : Hid (procR (tks T) F i = (nameR (tks T) (i + 1)).bind fun x i2 => (listR (tks T) F (nameR (tks T)) i2).bind fun ps i3 => (resR (tks T) i3).bind fun r i4 =>
    (takeR (tks T) [123] () i4).bind fun _ i5 => (varsM (tks T) F [] i5).bind fun vs i6 => (stmtsM (tks T) (stR (tks T) F F 0) F [] i6).bind fun b i7 => .ok ⟨x, ps, r, vs, b⟩ i7) := hid (by unfold procR takeR; rw [if_pos k1]; rfl)
  by_cases k2 : (tks T (i + 1)).k = 1
  rotate_left
  · have HN := hid (fun W (hh : RS W gR gt cap T (i + 1) 0) => pname_no hh hm k2)
    have HU : Hid (procR (tks T) F i = .bad 4 (i + 1)) := hid (by rw [HU1.out]; unfold nameR; rw [if_neg k2]; rfl)
    clear h k1 k2 ok hF hi hm HU1
    go_enter Tryd.func18, Tryd.ntmps18
    go_wp2_with fail
    refine HT.out.mono ?_
    rintro e w1 ⟨rfl, hr1, hg1⟩
    go_wp2_with fail
    refine (HN.out _ hr1).mono ?_
    rintro e w2 ⟨hg, hb2⟩
    unfold Gone at hg
    subst hg
    refine ⟨rfl, ?_⟩
    rw [HU.out]
    exact ⟨rfl, grow_below (grow_trans HG0.out hg1) hb2⟩
  have hm2 := ok.more hm (by have := k2; rw [tks_get hm] at this ⊢; exact ok.name _ hm (.inl this))
  have HN := hid (fun W (hh : RS W gR gt cap T (i + 1) 0) => pname_yes hh hm k2)
  have HU2 : Hid (procR (tks T) F i = (listR (tks T) F (nameR (tks T)) (i + 2)).bind fun ps i3 => (resR (tks T) i3).bind fun r i4 =>
    (takeR (tks T) [123] () i4).bind fun _ i5 => (varsM (tks T) F [] i5).bind fun vs i6 => (stmtsM (tks T) (stR (tks T) F F 0) F [] i6).bind fun b i7 => .ok ⟨(tks T (i + 1)).t, ps, r, vs, b⟩ i7) := hid (by rw [HU1.out]; unfold nameR; rw [if_pos k2]; rfl)
  have HL := hid (fun W (hh : RS W gR gt cap T (i + 2) 0) => plist_names ok hF (by omega) W gR gt cap (i + 2) hh hm2)
  have HLF := hid (list_fine ok F (fun i hi => name_fine ok hi) hm2)
  clear h k1 k2 ok hF hi hm hm2 HU1
  generalize hq : listR (tks T) F (nameR (tks T)) (i + 2) = q at *
  clear hq
  go_enter Tryd.func18, Tryd.ntmps18
  go_wp2_with fail
  refine HT.out.mono ?_
  rintro e w1 ⟨rfl, hr1, hg1⟩
  have HP1 := hid (HB0.out.grown hg1 (by simp; omega))
  have HG1 := hid (grow_trans HG0.out hg1)
  have hz1 : w.heap.size + 1 ≤ w1.heap.size := by have := hg1.size; simpa using this
  clear hg1
  go_wp2_with fail
  refine (HN.out _ hr1).mono ?_
  rintro e w2 ⟨rfl, hr2, hg2⟩
  have HG2 := hid (grow_trans HG1.out hg2)
  have hz3 : w.heap.size + 1 ≤ w2.heap.size := by have := hg2.size; omega
  have hw3 : Below w2.heap.size w2 (w2.alloc (.cells #[.string (str (tks T (i + 1)).t), .slice none 0 0, .string ⟨#[]⟩, .slice none 0 0, .slice none 0 0] 45)) := (Below.refl _ _).alloc (Nat.le_refl _) _
  have HR3 := hid (hr2.below hw3)
  have HG3 := hid (grow_below HG2.out hw3)
  have HP3 := hid ((HP1.out.grown hg2 (by simp; omega)).keep hw3)
  have HQ3 := hid (Box5.new w2 (.string (str (tks T (i + 1)).t)) (.slice none 0 0) (.string ⟨#[]⟩) (.slice none 0 0) (.slice none 0 0) 45)
  have HZ3 : Hid ((w2.alloc (.cells #[.string (str (tks T (i + 1)).t), .slice none 0 0, .string ⟨#[]⟩, .slice none 0 0, .slice none 0 0] 45)).heap.size = w2.heap.size + 1) := hid (by simp)
  clear hr1 hr2 hg2 hw3 HG1 HP1
  go_wp2_with fail
  refine (HL.out _ HR3.out).mono ?_
  intro e w4 h4
  rcases rout_cases h4 with ⟨ps, i3, v, hr, rfl, ⟨ap, mp, cp, rfl, hv⟩, hr4, hg4⟩ | ⟨x, i3, hr, hg, hg4⟩
  rotate_left
  · unfold Gone at hg
    subst hg
    subst hr
    refine ⟨rfl, ?_⟩
    rw [HU2.out]
    exact ⟨rfl, grow_trans HG3.out hg4⟩
  subst hr
  have HLF3 : Hid (i + 2 < i3 ∧ i3 < T.length) := HLF
  have HU3 : Hid (procR (tks T) F i = (resR (tks T) i3).bind fun r i4 =>
    (takeR (tks T) [123] () i4).bind fun _ i5 => (varsM (tks T) F [] i5).bind fun vs i6 => (stmtsM (tks T) (stR (tks T) F F 0) F [] i6).bind fun b i7 => .ok ⟨(tks T (i + 1)).t, ps, r, vs, b⟩ i7) := hid (HU2.out.trans rfl)
  have hz4 : w2.heap.size + 1 ≤ w4.heap.size := by have := hg4.size; have := HZ3.out; omega
  have HP4 := hid ((HP3.out.grown hg4 (by simp; omega)).other (b := w2.heap.size) (c := 1) (by omega) (.slice ap mp cp))
  have hq4 := HQ3.out.grown hg4 (by simp; omega)
  have HQ4 := hid (hq4.set1 (.slice ap mp cp))
  have HA4 := hid ((hv.move (ok' := fun b => w2.heap.size < b) ⟨Nat.le_refl _, fun b _ hb => ⟨rfl, by have := HZ3.out; omega⟩⟩).move (same_s (g := w2.heap.size) (c := 1) (u := .slice ap mp cp) (fun b hb => by omega)))
  have HR4 := hid (hr4.new (b := w2.heap.size) (c := 1) (by omega) (by omega) (.slice ap mp cp))
  have HG4 := hid (grow_new (grow_trans HG3.out hg4) (b := w2.heap.size) (by omega) 1 (.slice ap mp cp))
  have HZ4 : Hid ((w4.setCell ⟨w2.heap.size, 1, none⟩ (.slice ap mp cp)).heap.size = w4.heap.size) := hid (by simp [World.setCell])
  obtain ⟨c0, c1, c2, c3, c4⟩ := hq4.c
  have cf := hq4.f
  have cl := hq4.lt
  clear h4 hv hr4 hg4 hq4 HU2 HP3 HQ3 HR3 HG3 HL HLF
  by_cases k3 : (tks T i3).t = [45, 62]
  · have hm3 := HOK.out.more HLF3.out.2 (by rw [k3]; simp)
    have HT3 := hid (fun W (hh : RS W gR gt cap T i3 0) => ptakes_yes hh HOK.out HLF3.out.2 (u := [45, 62]) (by simp) k3)
    by_cases k4 : (tks T (i3 + 1)).k = 1
    · have hm4 := HOK.out.more hm3 (by have := k4; rw [tks_get hm3] at this ⊢; exact HOK.out.name _ hm3 (.inl this))
      have HN4 := hid (fun W (hh : RS W gR gt cap T (i3 + 1) 0) => pname_yes hh hm3 k4)
      obtain ⟨i4, hi4⟩ : ∃ i4, i4 = i3 + 2 := ⟨_, rfl⟩
      obtain ⟨rs, hrs⟩ : ∃ rs, rs = (tks T (i3 + 1)).t := ⟨_, rfl⟩
      have HU4 : Hid (procR (tks T) F i = (takeR (tks T) [123] () i4).bind fun _ i5 => (varsM (tks T) F [] i5).bind fun vs i6 => (stmtsM (tks T) (stR (tks T) F F 0) F [] i6).bind fun b i7 => .ok ⟨(tks T (i + 1)).t, ps, rs, vs, b⟩ i7) := hid (by rw [HU3.out]; unfold resR nameR; rw [if_pos k3, if_pos k4, hi4, hrs]; rfl)
      have HI4 : Hid (i4 < T.length) := hid (by rw [hi4]; exact hm4)
      rw [← hrs] at HN4
      have HN5 : Hid (∀ (W : World), RS W gR gt cap T (i3 + 1) 0 → Calls Tryd.prog 26 #[.pointer (some ⟨gR, 0, none⟩)] W fun e w' => e = .returned (.string (str rs)) ∧ RS w' gR gt cap T i4 0 ∧ W.grownBy w' (some gR)) := hid (fun W hh => by have := HN4.out W hh; rw [hi4]; exact this)
      clear k3 k4 hm3 hm4 hi4 hrs HN4 HU3
      go_wp2_with fail
      refine (HT3.out _ HR4.out).mono ?_
      rintro e w5 ⟨rfl, hr5, hg5⟩
      have HP5 := hid (HP4.out.grown hg5 (by simp; omega))
      have hq5 := HQ4.out.grown hg5 (by simp; omega)
      have HA5 := hid (HA4.out.move (same_g hg5 (fun b hb => by omega)))
      have HG5 := hid (grow_trans HG4.out hg5)
      have hz5 : w2.heap.size + 1 ≤ w5.heap.size := by have := hg5.size; have := HZ4.out; omega
      have HQ5 := hid hq5
      clear hg5 hq5 HP4 HQ4 HA4 HG4 c0 c1 c2 c3 c4 cf cl
      go_wp2_with fail
      refine (HN5.out _ hr5).mono ?_
      rintro e w6 ⟨rfl, hr6, hg6⟩
      have HPv := hid ((HP5.out.grown hg6 (by simp; omega)).other (b := w2.heap.size) (c := 2) (by omega) (.string (str rs)))
      have hq6 := HQ5.out.grown hg6 (by simp; omega)
      have HQv := hid (hq6.set2 (.string (str rs)))
      have HAv := hid ((HA5.out.move (same_g hg6 (fun b hb => by omega))).move (same_s (g := w2.heap.size) (c := 2) (u := .string (str rs)) (fun b hb => by omega)))
      have HRv := hid (hr6.new (b := w2.heap.size) (c := 2) (by omega) (by omega) (.string (str rs)))
      have HGv := hid (grow_new (grow_trans HG5.out hg6) (b := w2.heap.size) (by omega) 2 (.string (str rs)))
      have hzv : w2.heap.size + 1 ≤ (w6.setCell ⟨w2.heap.size, 2, none⟩ (.string (str rs))).heap.size := by have := hg6.size; simp [World.setCell]; omega
      obtain ⟨c0, c1, c2, c3, c4⟩ := hq6.c
      have cf := hq6.f
      have cl := hq6.lt
      clear hr6 hg6 hq6 HP5 HQ5 HA5 HG5 hr5
      go_wp2_with fail
      clear c0 c1 c2 c3 c4 cf cl
      generalize w6.setCell ⟨w2.heap.size, 2, none⟩ (.string (str rs)) = wv at *
      have HZv := hid (show wv.heap.size ≤ wv.heap.size from Nat.le_refl _)
      by_cases k5 : (tks T i4).t = [123]
      rotate_left
      · have HT5 := hid (fun W (hh : RS W gR gt cap T i4 0) => ptake_no hh HOK.out HI4.out (u := [123]) (by simp) k5)
        have HU5 : Hid (procR (tks T) F i = .bad 4 i4) := hid (by rw [HU4.out]; unfold takeR; rw [if_neg k5]; rfl)
        clear k5 HU4
        go_wp2_with fail
        refine (HT5.out _ HRv.out).mono ?_
        rintro e w5 ⟨hg, hb5⟩
        unfold Gone at hg
        subst hg
        refine ⟨rfl, ?_⟩
        rw [HU5.out]
        exact ⟨rfl, grow_below HGv.out hb5⟩
      · have hm5 := HOK.out.more HI4.out (by rw [k5]; simp)
        have HT5 := hid (fun W (hh : RS W gR gt cap T i4 0) => ptake_yes hh HOK.out HI4.out (u := [123]) (by simp) k5)
        have HU5 : Hid (procR (tks T) F i = (varsM (tks T) F [] (i4 + 1)).bind fun vs i6 => (stmtsM (tks T) (stR (tks T) F F 0) F [] i6).bind fun b i7 => .ok ⟨(tks T (i + 1)).t, ps, rs, vs, b⟩ i7) := hid (by rw [HU4.out]; unfold takeR; rw [if_pos k5]; rfl)
        have HM5 := hid hm5
        clear k5 HU4 hm5
        go_wp2_with fail
        refine (HT5.out _ HRv.out).mono ?_
        rintro e ws ⟨rfl, hrs, hgs⟩
        have hzs : w2.heap.size + 1 ≤ ws.heap.size := by have := hgs.size; omega
        have HGs := hid (grow_trans HGv.out hgs)
        have HPs := hid (HPv.out.grown hgs (by simp; omega))
        have HQs := hid (HQv.out.grown hgs (by simp; omega))
        have HAs := hid (HAv.out.move (ok' := fun b => w2.heap.size < b ∧ b < ws.heap.size) ⟨hgs.size, fun b hl hb => ⟨hgs.block b hl (by simp; omega), by omega, by have := hgs.size; omega⟩⟩)
        have HRs := hid hrs
        clear HPv HQv HAv HGv HRv hgs hrs HT5 HZv hzv
        go_wp2_with fail
        go_loopg [] (T.length - (i4 + 1)) (fun M wr => VarsRel w ws w.heap.size w2.heap.size gR gt cap T F (i4 + 1) (str (tks T (i + 1)).t) (str rs) ap mp cp M wr)
        case atStart => exact ⟨[], [], i4 + 1, F, none, 0, 0, hid rfl, HQs.out, HPs.out, ownV_nil _ _ _ _, trivial, HRs.out, HGs.out, Nat.le_refl _, fun _ _ _ _ => rfl, HM5.out, Nat.le_refl _, Nat.zero_le _, by have := HFF.out; omega, hid rfl⟩
        case round =>
          obtain ⟨A, vs, j, m, av, mv, cv, HM, hq, hp, hown, hall, hrr, hgr, hH, hlow, hj, hjj, hAj, hm2, HMR⟩ := hrel
          obtain ⟨m', rfl⟩ : ∃ m', m = m' + 1 := ⟨m - 1, by omega⟩
          have HQr := hid hq
          have HPr := hid hp
          have HOr := hid hown
          have HLr := hid hall
          have HGr := hid hgr
          have HHr := hid hH
          have HLO := hid hlow
          have HJ := hid hj
          have HJJ := hid hjj
          have HAJ := hid hAj
          have HM2 := hid hm2
          by_cases k6 : (tks T j).t = [118, 97, 114]
          · have hm6 := HOK.out.more hj (by rw [k6]; simp)
            have HT6 := hid (ptakes_yes hrr HOK.out hj (u := [118, 97, 114]) (by simp) k6)
            have HMR2 : Hid (varsM (tks T) F [] (i4 + 1) = (nameR (tks T) (j + 1)).bind fun x l => (takeR (tks T) [59] () l).bind fun _ k => varsM (tks T) m' (A ++ [x]) k) := hid (HMR.out.trans (if_pos k6))
            have HM6 := hid hm6
            clear hq hp hown hall hrr hgr hH hlow hj hjj hAj hm2 HMR k6 hm6 HQs HPs HRs HGs
            go_wp2_with fail
            refine HT6.out.mono ?_
            rintro e w5 ⟨rfl, hr5, hg5⟩
            have hlo5 : ∀ b, b ≠ gR → b < wr.heap.size → w5.heap[b]? = wr.heap[b]? := fun b hb hl => hg5.block b hl (by simpa using hb)
            have hz5 : ws.heap.size ≤ w5.heap.size := by have := hg5.size; have := HHr.out; omega
            have hq5 := HQr.out.grown hg5 (by simp; omega)
            have hp5 := HPr.out.grown hg5 (by simp; omega)
            have ho5 := HOr.out.kept hg5 (by intro g e; simp at e; omega)
            have HG5 := hid (grow_trans HGr.out hg5)
            have HLO5 := hid (fun b (h1 : b < ws.heap.size) (h2 : b ≠ gR) (h3 : b ≠ w2.heap.size) => (hlo5 b h2 (by have := HHr.out; omega)).trans (HLO.out b h1 h2 h3))
            have HR5 := hid hr5
            have HQ5 := hid hq5
            have HP5 := hid hp5
            have HO5 := hid ho5
            have HVL : Hid (vs.length ≤ 8200) := hid (by have := HLr.out.len; have := HAJ.out; have := HJ.out; have := hr5.len; omega)
            have HL5 : Hid (AllV (TxQ w5 (fun _ => True)) A vs) := HLr
            obtain ⟨q0, q1, q2, q3, q4⟩ := hq5.c
            have ql := hq5.lt
            clear hlo5 hq5 hp5 ho5 hg5 hr5 HQr HPr HOr HGr HLr HT6
            by_cases k7 : (tks T (j + 1)).k = 1
            · have hm7 := HOK.out.more HM6.out (by have := k7; rw [tks_get HM6.out] at this ⊢; exact HOK.out.name _ HM6.out (.inl this))
              have HN7 := hid (pname_yes HR5.out.drew HM6.out k7)
              have HMR3 : Hid (varsM (tks T) F [] (i4 + 1) = (takeR (tks T) [59] () (j + 2)).bind fun _ k => varsM (tks T) m' (A ++ [(tks T (j + 1)).t]) k) := hid (by rw [HMR2.out]; unfold nameR; rw [if_pos k7]; rfl)
              have HM7 := hid hm7
              clear HMR2 k7 hm7
              go_wp2_with fail
              go_region_law (first
                | (refine step_call1 26 Tryd.func26 (by kernel_rfl) (by kernel_rfl) 54 (.pointer (some ⟨gR, 0, none⟩)) _ rfl (.tmp 25) rfl rfl HN7.out ?_; intro e w6 hx6; refine ⟨_, hx6.1, ?_⟩; have hr6 := hx6.2.1; have hg6 := hx6.2.2; have hq6 := Box5.grown (w := w5.drew) HQ5.out hg6 (by simp; omega); have HP6 := hid (Box5.grown (w := w5.drew) HP5.out hg6 (by simp; omega)); have HO6 := hid (OwnV.kept (w := w5.drew) HO5.out hg6 (by intro g e; simp at e; omega)); have hz6 : ws.heap.size ≤ w6.heap.size := Nat.le_trans hz5 hg6.size; obtain ⟨s0, s1, s2, s3, s4⟩ := hq6.c; have sl := hq6.lt)
                | (refine step_text rfl (.tmp 24) (.tmp 27) rfl (b2 := w.heap.size) (b3 := w2.heap.size) (H := ws.heap.size) (a := (tks T (j + 1)).t) hq6 HP6.out HO6.out HL5.out hr6 HVL.out (by omega) (by omega) (by omega) rfl rfl hz6 ?_; intro g7 m7 c7 w7 hq7 hp7 ho7 hr7 hz7 hlo7 hos7; obtain ⟨t0, t1, t2, t3, t4⟩ := hq7.c; have tf := hq7.f; have tl := hq7.lt))
              all_goals
                have hro : w5.drew.grownBy w6 (some gR) := hg6
                have HR8 := hid (hr7.new (b := w2.heap.size) (c := 3) (by omega) (by omega) (.slice (some ⟨g7, 0, none⟩) m7 c7))
                have HQ8 := hid (hq7.set3 (.slice (some ⟨g7, 0, none⟩) m7 c7))
                have HP8 := hid (hp7.other (b := w2.heap.size) (c := 3) (by omega) (.slice (some ⟨g7, 0, none⟩) m7 c7))
                have HO8 := hid (ho7.same (w' := w7.setCell ⟨w2.heap.size, 3, none⟩ (.slice (some ⟨g7, 0, none⟩) m7 c7)) (fun b hb hl => heap_setCell_other w7 ⟨w2.heap.size, 3, none⟩ b _ (by simp; omega)))
                have HL8 : Hid (AllV (TxQ (w7.setCell ⟨w2.heap.size, 3, none⟩ (.slice (some ⟨g7, 0, none⟩) m7 c7)) (fun _ => True)) (A ++ [(tks T (j + 1)).t]) (vs ++ [txC (tks T (j + 1)).t])) := hid (AllV.snoc (P := TxQ (w7.setCell ⟨w2.heap.size, 3, none⟩ (.slice (some ⟨g7, 0, none⟩) m7 c7)) (fun _ => True)) (show TxQ _ _ _ _ from rfl) (HL5.out.imp fun a v h => h))
                have HG8 : Hid (w.grownBy (w7.setCell ⟨w2.heap.size, 3, none⟩ (.slice (some ⟨g7, 0, none⟩) m7 c7)) (some gR)) := hid (grow_new ⟨hos7.1.trans (hro.os.trans HG5.out.os), hos7.2.1.trans (hro.tape.trans HG5.out.tape), hos7.2.2.trans (hro.output.trans HG5.out.output), by have := HG5.out.size; have h1 := hro.size; have h2 : w5.drew.heap.size = w5.heap.size := rfl; omega, fun k hk hne => by
                  have h2 : w5.drew.heap.size = w5.heap.size := rfl
                  have h5 := HG5.out.size
                  exact (hlo7 k (by omega)).trans ((hro.block k (by omega) hne).trans (HG5.out.block k hk hne))⟩ (by omega) 3 _)
                have HLO8 := hid (fun b (h1 : b < ws.heap.size) (h2 : b ≠ gR) (h3 : b ≠ w2.heap.size) => (heap_setCell_other w7 ⟨w2.heap.size, 3, none⟩ b (.slice (some ⟨g7, 0, none⟩) m7 c7) (by simpa using h3)).trans ((hlo7 b h1).trans ((hro.block b (by have h4 : w5.drew.heap.size = w5.heap.size := rfl; omega) (by simpa using h2)).trans (HLO5.out b h1 h2 h3))))
                have HH8 : Hid (ws.heap.size ≤ (w7.setCell ⟨w2.heap.size, 3, none⟩ (.slice (some ⟨g7, 0, none⟩) m7 c7)).heap.size) := hid (by simp [World.setCell]; omega)
                clear q0 q1 q2 q3 q4 s0 s1 s2 s3 s4 t0 t1 t2 t3 t4 tf hq7 hp7 ho7 hr7 hlo7 hos7 hq6 hr6 hg6 HP6 HO6 HO5 HL5 HP5 HQ5 HR5 HG5 HLO5 hx6 hro
                by_cases k8 : (tks T (j + 2)).t = [59]
                · have hm8 := HOK.out.more HM7.out (by rw [k8]; simp)
                  have HT8 := hid (fun W (hh : RS W gR gt cap T (j + 2) 0) => ptake_yes hh HOK.out HM7.out (u := [59]) (by simp) k8)
                  have HMR4 : Hid (varsM (tks T) F [] (i4 + 1) = varsM (tks T) m' (A ++ [(tks T (j + 1)).t]) (j + 3)) := hid (by rw [HMR3.out]; unfold takeR; rw [if_pos k8]; rfl)
                  have HM8 := hid hm8
                  clear HMR3 k8 hm8
                  go_wp2_with fail
                  refine (HT8.out _ HR8.out).mono ?_
                  rintro e w9 ⟨rfl, hr9, hg9⟩
                  have HR9 := hid hr9
                  have HG9 := hid hg9
                  clear hr9 hg9
                  go_wp2_with fail
                  go_roundg (T.length - (j + 3))
                  case measure => have h1 := HM8.out; have h2 := HM.out; omega
                  case rel =>
                    have hs9 := HG9.out.size
                    have hh8 := HH8.out
                    refine ⟨A ++ [(tks T (j + 1)).t], vs ++ [txC (tks T (j + 1)).t], j + 3, m', _, _, _, hid rfl, HQ8.out.grown HG9.out (by simp; omega), HP8.out.grown HG9.out (by simp; omega), HO8.out.kept HG9.out (by intro g e; simp at e; omega), HL8.out.imp fun a v h => h, HR9.out, grow_trans HG8.out HG9.out, by omega, fun b h1 h2 h3 => (HG9.out.block b (by omega) (by simpa using h2)).trans (HLO8.out b h1 h2 h3), HM8.out, by have := HJJ.out; omega, by have := HAJ.out; simp; omega, by have := HM2.out; omega, HMR4⟩
                · have HT8 := hid (fun W (hh : RS W gR gt cap T (j + 2) 0) => ptake_no hh HOK.out HM7.out (u := [59]) (by simp) k8)
                  have HMR4 : Hid (varsM (tks T) F [] (i4 + 1) = .bad 4 (j + 2)) := hid (by rw [HMR3.out]; unfold takeR; rw [if_neg k8]; rfl)
                  clear HMR3 k8
                  go_wp2_with fail
                  refine (HT8.out _ HR8.out).mono ?_
                  rintro e w9 ⟨hg, hb9⟩
                  unfold Gone at hg
                  subst hg
                  refine ⟨rfl, ?_⟩
                  rw [HU5.out, HMR4.out]
                  exact ⟨rfl, grow_below HG8.out hb9⟩
            · have HN7 := hid (pname_no HR5.out.drew HM6.out k7)
              have HMR3 : Hid (varsM (tks T) F [] (i4 + 1) = .bad 4 (j + 1)) := hid (by rw [HMR2.out]; unfold nameR; rw [if_neg k7]; rfl)
              have HUF : Hid (procR (tks T) F i = .bad 4 (j + 1)) := hid (by rw [HU5.out, HMR3.out]; rfl)
              clear HMR2 k7 HMR3
              have hq6 : Box5 w5.drew w2.heap.size (.string (str (tks T (i + 1)).t)) (.slice ap mp cp) (.string (str rs)) (.slice av mv cv) (.slice none 0 0) := HQ5.out
              have HP6 : Hid (Box5 w5.drew w.heap.size (.string ⟨#[]⟩) (.slice none 0 0) (.string ⟨#[]⟩) (.slice none 0 0) (.slice none 0 0)) := HP5
              have HO6 : Hid (OwnV w5.drew ws.heap.size 9 1 (.slice av mv cv) vs) := HO5
              have HL6 : Hid (AllV (TxQ w5.drew (fun _ => True)) A vs) := HL5
              have HR6 := hid HR5.out.drew
              have hz6 : ws.heap.size ≤ w5.drew.heap.size := hz5
              go_wp2_with fail
              go_region_law (first
                | (refine step_dead1 26 Tryd.func26 (by kernel_rfl) (by kernel_rfl) 54 (.pointer (some ⟨gR, 0, none⟩)) _ (.string (str [])) rfl (.tmp 25) rfl rfl HN7.out (fun e w9 hx => ⟨_, hx.1, rfl, (by rw [HUF.out]; exact ⟨rfl, grow_below (grow_drew HG5.out) hx.2⟩)⟩) ?_; intro hF; have HFx := hid hF; clear hF)
                | (refine step_text rfl (.tmp 24) (.tmp 27) rfl (b2 := w.heap.size) (b3 := w2.heap.size) (H := ws.heap.size) (a := []) hq6 HP6.out HO6.out HL6.out HR6.out HVL.out (by omega) (by omega) (by omega) rfl rfl hz6 ?_; intro g7 m7 c7 w7 hq7 hp7 ho7 hr7 hz7 hlo7 hos7; obtain ⟨t0, t1, t2, t3, t4⟩ := hq7.c; have tf := hq7.f; have tl := hq7.lt))
              all_goals exact HFx.out.elim
          · have HT6 := hid (ptakes_no hrr HOK.out hj (u := [118, 97, 114]) (by simp) k6)
            have HMR2 : Hid (varsM (tks T) F [] (i4 + 1) = .ok A j) := hid (HMR.out.trans (if_neg k6))
            have HU6 : Hid (procR (tks T) F i = (stmtsM (tks T) (stR (tks T) F F 0) F [] j).bind fun b i7 => .ok ⟨(tks T (i + 1)).t, ps, rs, A, b⟩ i7) := hid (by rw [HU5.out, HMR2.out]; rfl)
            have HS6 := hid (fun W (hh : RS W gR gt cap T j 0) => pstmts_any HOK.out HFF.out (pstmt_any HOK.out HFF.out F 0 (by omega)) (fun i hi => st_fine HOK.out F F 0 hi) W gR gt cap j hh HJ.out (by have := HFF.out; omega))
            clear hq hp hown hall hrr hgr hH hlow hj hjj hAj hm2 HMR k6 HQs HPs HRs HGs HMR2
            generalize hqq : stmtsM (tks T) (stR (tks T) F F 0) F [] j = qq at *
            clear hqq
            go_wp2_with fail
            refine HT6.out.mono ?_
            rintro e w5 ⟨rfl, hr5, hb5⟩
            have hz5 : ws.heap.size ≤ w5.heap.size := by have := hb5.size; have := HHr.out; omega
            have HQ5 := hid (HQr.out.keep hb5)
            have HP5 := hid (HPr.out.keep hb5)
            have HO5 := hid (HOr.out.below hb5)
            have HG5 := hid (grow_below HGr.out hb5)
            have HLO5 := hid (fun b (h1 : b < ws.heap.size) (h2 : b ≠ gR) (h3 : b ≠ w2.heap.size) => (hb5.block b (by have := HHr.out; omega)).trans (HLO.out b h1 h2 h3))
            clear hb5 HQr HPr HOr HGr HLO
            go_wp2_with fail
            refine (HS6.out _ hr5).mono ?_
            intro e w6 h6
            rcases rout_cases h6 with ⟨bd, l, v, hr, rfl, ⟨ab, mb, cb, rfl, hv⟩, hr6, hg6⟩ | ⟨x, l, hr, hg, hg6⟩
            · subst hr
              have HU7 : Hid (procR (tks T) F i = .ok ⟨(tks T (i + 1)).t, ps, rs, A, bd⟩ l) := hid (HU6.out.trans rfl)
              have hz6 : w5.heap.size ≤ w6.heap.size := hg6.size
              have hq6 := HQ5.out.grown hg6 (by simp; omega)
              have HP6 := hid (HP5.out.grown hg6 (by simp; omega))
              have HO6 := hid (HO5.out.kept hg6 (by intro g e; simp at e; omega))
              have hn : ∀ b, (w.heap.size + 1 ≤ b ∧ b ≠ w2.heap.size) → b ≠ w2.heap.size := fun b hb => hb.2
              have hA6 : Same ws w6 (fun b => w2.heap.size < b ∧ b < ws.heap.size) (fun b => w.heap.size + 1 ≤ b ∧ b ≠ w2.heap.size) := ⟨by omega, fun b hl hb => ⟨(hg6.block b (by omega) (by simp; omega)).trans (HLO5.out b hb.2 (by omega) (by omega)), by omega, by omega⟩⟩
              have HA8 := hid ((HAs.out.move hA6).move (same_s (g := w2.heap.size) (c := 4) (u := .slice ab mb cb) hn))
              have hlen1 : ∀ l ∈ vs, l.length = 1 := all_len_tx (w := w6) (ok := fun _ => True) (HLr.out.imp fun a v h => h)
              have HV8 : Hid (TxA (w6.setCell ⟨w2.heap.size, 4, none⟩ (.slice ab mb cb)) (fun b => w.heap.size + 1 ≤ b ∧ b ≠ w2.heap.size) av mv cv A) := hid ⟨vs, SlF.move (SlF.move (HO6.out.slf hlen1) (ok' := fun b => w.heap.size + 1 ≤ b ∧ b ≠ w2.heap.size) ⟨Nat.le_refl _, fun b _ hb => ⟨rfl, by omega, by omega⟩⟩) (same_s (g := w2.heap.size) (c := 4) (u := .slice ab mb cb) hn), HLr.out.imp fun a v h => h⟩
              have HB8 := hid ((hv.move (ok' := fun b => w.heap.size + 1 ≤ b ∧ b ≠ w2.heap.size) ⟨Nat.le_refl _, fun b _ hb => ⟨rfl, by omega, by omega⟩⟩).move (same_s (g := w2.heap.size) (c := 4) (u := .slice ab mb cb) hn))
              have HR8 := hid (hr6.new (b := w2.heap.size) (c := 4) (by omega) (by omega) (.slice ab mb cb))
              have HG8 := hid (grow_new (grow_trans HG5.out hg6) (b := w2.heap.size) (by omega) 4 (.slice ab mb cb))
              have HP8 := hid (HP6.out.other (b := w2.heap.size) (c := 4) (by omega) (.slice ab mb cb))
              obtain ⟨q0, q1, q2, q3, q4⟩ := hq6.c
              have qf := hq6.f
              have ql := hq6.lt
              obtain ⟨p0, p1, p2, p3, p4⟩ := HP6.out.c
              have pf := HP6.out.f
              have pl := HP6.out.lt
              have hne : ¬ w2.heap.size = w.heap.size := by omega
              have hne2 : ¬ w.heap.size = w2.heap.size := by omega
              clear h6 hv hr5 hr6 hg6 hq6 HU6 hA6 hlen1 HO6 HO5 HQ5 HP5 HG5 hn
              go_wp2_with fail
              refine bodyPost_ret (res_proc _ rfl (HP8.out.store _ _ _ _ _)) rfl ?_
              rw [HU7.out]
              refine prout_close (N := w.heap.size + 1) (w3 := w6.setCell ⟨w2.heap.size, 4, none⟩ (.slice ab mb cb)) ?_ HR8.out hz HG8.out (by omega) ⟨ap, mp, cp, av, mv, cv, ab, mb, cb, rfl, HA8.out.move ⟨Nat.le_refl _, fun b _ hb => ⟨rfl, hb.1⟩⟩, HV8.out.move ⟨Nat.le_refl _, fun b _ hb => ⟨rfl, hb.1⟩⟩, HB8.out.move ⟨Nat.le_refl _, fun b _ hb => ⟨rfl, hb.1⟩⟩⟩
              (repeat (first | with_reducible exact Mid.refl _ _ _ | (with_reducible refine Mid.set ?_ (by omega) (by omega) _)))
            · unfold Gone at hg
              subst hg
              subst hr
              refine ⟨rfl, ?_⟩
              rw [HU6.out]
              exact ⟨rfl, grow_trans HG5.out hg6⟩
    · have HN4 := hid (fun W (hh : RS W gR gt cap T (i3 + 1) 0) => pname_no hh hm3 k4)
      have HU4 : Hid (procR (tks T) F i = .bad 4 (i3 + 1)) := hid (by rw [HU3.out]; unfold resR nameR; rw [if_pos k3, if_neg k4]; rfl)
      clear k3 k4 hm3 HU3
      go_wp2_with fail
      refine (HT3.out _ HR4.out).mono ?_
      rintro e w5 ⟨rfl, hr5, hg5⟩
      go_wp2_with fail
      refine (HN4.out _ hr5).mono ?_
      rintro e w6 ⟨hg, hb6⟩
      unfold Gone at hg
      subst hg
      refine ⟨rfl, ?_⟩
      rw [HU4.out]
      exact ⟨rfl, grow_below (grow_trans HG4.out hg5) hb6⟩
  · have HT3 := hid (fun W (hh : RS W gR gt cap T i3 0) => ptakes_no hh HOK.out HLF3.out.2 (u := [45, 62]) (by simp) k3)
    obtain ⟨i4, hi4⟩ : ∃ i4, i4 = i3 := ⟨_, rfl⟩
    obtain ⟨rs, hrs⟩ : ∃ rs : List Nat, rs = [] := ⟨_, rfl⟩
    have HU4 : Hid (procR (tks T) F i = (takeR (tks T) [123] () i4).bind fun _ i5 => (varsM (tks T) F [] i5).bind fun vs i6 => (stmtsM (tks T) (stR (tks T) F F 0) F [] i6).bind fun b i7 => .ok ⟨(tks T (i + 1)).t, ps, rs, vs, b⟩ i7) := hid (by rw [HU3.out]; unfold resR; rw [if_neg k3, hi4, hrs]; rfl)
    have HI4 : Hid (i4 < T.length) := hid (by rw [hi4]; exact HLF3.out.2)
    have HRS : Hid ((⟨#[]⟩ : ByteArray) = str rs) := hid (by rw [hrs]; rfl)
    have HI : Hid (i4 = i3) := hid hi4
    clear k3 hrs HU3 hi4
    go_wp2_with fail
    refine (HT3.out _ HR4.out).mono ?_
    rintro e wv ⟨rfl, hr5, hb5⟩
    have HPv := hid (HP4.out.keep hb5)
    have hq5 := HQ4.out.keep hb5
    rw [HRS.out] at hq5
    have HQv := hid hq5
    have HAv := hid (HA4.out.move (same_b hb5))
    have HGv := hid (grow_below HG4.out hb5)
    rw [← HI.out] at hr5
    have HRv := hid hr5
    have hzv : w2.heap.size + 1 ≤ wv.heap.size := by have := hb5.size; have := HZ4.out; omega
    clear hb5 hq5 HP4 HQ4 HA4 HG4 c0 c1 c2 c3 c4 cf cl hr5
    have HZv := hid (show wv.heap.size ≤ wv.heap.size from Nat.le_refl _)
    by_cases k5 : (tks T i4).t = [123]
    rotate_left
    · have HT5 := hid (fun W (hh : RS W gR gt cap T i4 0) => ptake_no hh HOK.out HI4.out (u := [123]) (by simp) k5)
      have HU5 : Hid (procR (tks T) F i = .bad 4 i4) := hid (by rw [HU4.out]; unfold takeR; rw [if_neg k5]; rfl)
      clear k5 HU4
      go_wp2_with fail
      refine (HT5.out _ HRv.out).mono ?_
      rintro e w5 ⟨hg, hb5⟩
      unfold Gone at hg
      subst hg
      refine ⟨rfl, ?_⟩
      rw [HU5.out]
      exact ⟨rfl, grow_below HGv.out hb5⟩
    · have hm5 := HOK.out.more HI4.out (by rw [k5]; simp)
      have HT5 := hid (fun W (hh : RS W gR gt cap T i4 0) => ptake_yes hh HOK.out HI4.out (u := [123]) (by simp) k5)
      have HU5 : Hid (procR (tks T) F i = (varsM (tks T) F [] (i4 + 1)).bind fun vs i6 => (stmtsM (tks T) (stR (tks T) F F 0) F [] i6).bind fun b i7 => .ok ⟨(tks T (i + 1)).t, ps, rs, vs, b⟩ i7) := hid (by rw [HU4.out]; unfold takeR; rw [if_pos k5]; rfl)
      have HM5 := hid hm5
      clear k5 HU4 hm5
      go_wp2_with fail
      refine (HT5.out _ HRv.out).mono ?_
      rintro e ws ⟨rfl, hrs, hgs⟩
      have hzs : w2.heap.size + 1 ≤ ws.heap.size := by have := hgs.size; omega
      have HGs := hid (grow_trans HGv.out hgs)
      have HPs := hid (HPv.out.grown hgs (by simp; omega))
      have HQs := hid (HQv.out.grown hgs (by simp; omega))
      have HAs := hid (HAv.out.move (ok' := fun b => w2.heap.size < b ∧ b < ws.heap.size) ⟨hgs.size, fun b hl hb => ⟨hgs.block b hl (by simp; omega), by omega, by have := hgs.size; omega⟩⟩)
      have HRs := hid hrs
      clear HPv HQv HAv HGv HRv hgs hrs HT5 HZv hzv
      go_wp2_with fail
      go_loopg [] (T.length - (i4 + 1)) (fun M wr => VarsRel w ws w.heap.size w2.heap.size gR gt cap T F (i4 + 1) (str (tks T (i + 1)).t) (str rs) ap mp cp M wr)
      case atStart => exact ⟨[], [], i4 + 1, F, none, 0, 0, hid rfl, HQs.out, HPs.out, ownV_nil _ _ _ _, trivial, HRs.out, HGs.out, Nat.le_refl _, fun _ _ _ _ => rfl, HM5.out, Nat.le_refl _, Nat.zero_le _, by have := HFF.out; omega, hid rfl⟩
      case round =>
        obtain ⟨A, vs, j, m, av, mv, cv, HM, hq, hp, hown, hall, hrr, hgr, hH, hlow, hj, hjj, hAj, hm2, HMR⟩ := hrel
        obtain ⟨m', rfl⟩ : ∃ m', m = m' + 1 := ⟨m - 1, by omega⟩
        have HQr := hid hq
        have HPr := hid hp
        have HOr := hid hown
        have HLr := hid hall
        have HGr := hid hgr
        have HHr := hid hH
        have HLO := hid hlow
        have HJ := hid hj
        have HJJ := hid hjj
        have HAJ := hid hAj
        have HM2 := hid hm2
        by_cases k6 : (tks T j).t = [118, 97, 114]
        · have hm6 := HOK.out.more hj (by rw [k6]; simp)
          have HT6 := hid (ptakes_yes hrr HOK.out hj (u := [118, 97, 114]) (by simp) k6)
          have HMR2 : Hid (varsM (tks T) F [] (i4 + 1) = (nameR (tks T) (j + 1)).bind fun x l => (takeR (tks T) [59] () l).bind fun _ k => varsM (tks T) m' (A ++ [x]) k) := hid (HMR.out.trans (if_pos k6))
          have HM6 := hid hm6
          clear hq hp hown hall hrr hgr hH hlow hj hjj hAj hm2 HMR k6 hm6 HQs HPs HRs HGs
          go_wp2_with fail
          refine HT6.out.mono ?_
          rintro e w5 ⟨rfl, hr5, hg5⟩
          have hlo5 : ∀ b, b ≠ gR → b < wr.heap.size → w5.heap[b]? = wr.heap[b]? := fun b hb hl => hg5.block b hl (by simpa using hb)
          have hz5 : ws.heap.size ≤ w5.heap.size := by have := hg5.size; have := HHr.out; omega
          have hq5 := HQr.out.grown hg5 (by simp; omega)
          have hp5 := HPr.out.grown hg5 (by simp; omega)
          have ho5 := HOr.out.kept hg5 (by intro g e; simp at e; omega)
          have HG5 := hid (grow_trans HGr.out hg5)
          have HLO5 := hid (fun b (h1 : b < ws.heap.size) (h2 : b ≠ gR) (h3 : b ≠ w2.heap.size) => (hlo5 b h2 (by have := HHr.out; omega)).trans (HLO.out b h1 h2 h3))
          have HR5 := hid hr5
          have HQ5 := hid hq5
          have HP5 := hid hp5
          have HO5 := hid ho5
          have HVL : Hid (vs.length ≤ 8200) := hid (by have := HLr.out.len; have := HAJ.out; have := HJ.out; have := hr5.len; omega)
          have HL5 : Hid (AllV (TxQ w5 (fun _ => True)) A vs) := HLr
          obtain ⟨q0, q1, q2, q3, q4⟩ := hq5.c
          have ql := hq5.lt
          clear hlo5 hq5 hp5 ho5 hg5 hr5 HQr HPr HOr HGr HLr HT6
          by_cases k7 : (tks T (j + 1)).k = 1
          · have hm7 := HOK.out.more HM6.out (by have := k7; rw [tks_get HM6.out] at this ⊢; exact HOK.out.name _ HM6.out (.inl this))
            have HN7 := hid (pname_yes HR5.out.drew HM6.out k7)
            have HMR3 : Hid (varsM (tks T) F [] (i4 + 1) = (takeR (tks T) [59] () (j + 2)).bind fun _ k => varsM (tks T) m' (A ++ [(tks T (j + 1)).t]) k) := hid (by rw [HMR2.out]; unfold nameR; rw [if_pos k7]; rfl)
            have HM7 := hid hm7
            clear HMR2 k7 hm7
            go_wp2_with fail
            go_region_law (first
              | (refine step_call1 26 Tryd.func26 (by kernel_rfl) (by kernel_rfl) 54 (.pointer (some ⟨gR, 0, none⟩)) _ rfl (.tmp 25) rfl rfl HN7.out ?_; intro e w6 hx6; refine ⟨_, hx6.1, ?_⟩; have hr6 := hx6.2.1; have hg6 := hx6.2.2; have hq6 := Box5.grown (w := w5.drew) HQ5.out hg6 (by simp; omega); have HP6 := hid (Box5.grown (w := w5.drew) HP5.out hg6 (by simp; omega)); have HO6 := hid (OwnV.kept (w := w5.drew) HO5.out hg6 (by intro g e; simp at e; omega)); have hz6 : ws.heap.size ≤ w6.heap.size := Nat.le_trans hz5 hg6.size; obtain ⟨s0, s1, s2, s3, s4⟩ := hq6.c; have sl := hq6.lt)
              | (refine step_text rfl (.tmp 24) (.tmp 27) rfl (b2 := w.heap.size) (b3 := w2.heap.size) (H := ws.heap.size) (a := (tks T (j + 1)).t) hq6 HP6.out HO6.out HL5.out hr6 HVL.out (by omega) (by omega) (by omega) rfl rfl hz6 ?_; intro g7 m7 c7 w7 hq7 hp7 ho7 hr7 hz7 hlo7 hos7; obtain ⟨t0, t1, t2, t3, t4⟩ := hq7.c; have tf := hq7.f; have tl := hq7.lt))
            all_goals
              have hro : w5.drew.grownBy w6 (some gR) := hg6
              have HR8 := hid (hr7.new (b := w2.heap.size) (c := 3) (by omega) (by omega) (.slice (some ⟨g7, 0, none⟩) m7 c7))
              have HQ8 := hid (hq7.set3 (.slice (some ⟨g7, 0, none⟩) m7 c7))
              have HP8 := hid (hp7.other (b := w2.heap.size) (c := 3) (by omega) (.slice (some ⟨g7, 0, none⟩) m7 c7))
              have HO8 := hid (ho7.same (w' := w7.setCell ⟨w2.heap.size, 3, none⟩ (.slice (some ⟨g7, 0, none⟩) m7 c7)) (fun b hb hl => heap_setCell_other w7 ⟨w2.heap.size, 3, none⟩ b _ (by simp; omega)))
              have HL8 : Hid (AllV (TxQ (w7.setCell ⟨w2.heap.size, 3, none⟩ (.slice (some ⟨g7, 0, none⟩) m7 c7)) (fun _ => True)) (A ++ [(tks T (j + 1)).t]) (vs ++ [txC (tks T (j + 1)).t])) := hid (AllV.snoc (P := TxQ (w7.setCell ⟨w2.heap.size, 3, none⟩ (.slice (some ⟨g7, 0, none⟩) m7 c7)) (fun _ => True)) (show TxQ _ _ _ _ from rfl) (HL5.out.imp fun a v h => h))
              have HG8 : Hid (w.grownBy (w7.setCell ⟨w2.heap.size, 3, none⟩ (.slice (some ⟨g7, 0, none⟩) m7 c7)) (some gR)) := hid (grow_new ⟨hos7.1.trans (hro.os.trans HG5.out.os), hos7.2.1.trans (hro.tape.trans HG5.out.tape), hos7.2.2.trans (hro.output.trans HG5.out.output), by have := HG5.out.size; have h1 := hro.size; have h2 : w5.drew.heap.size = w5.heap.size := rfl; omega, fun k hk hne => by
                have h2 : w5.drew.heap.size = w5.heap.size := rfl
                have h5 := HG5.out.size
                exact (hlo7 k (by omega)).trans ((hro.block k (by omega) hne).trans (HG5.out.block k hk hne))⟩ (by omega) 3 _)
              have HLO8 := hid (fun b (h1 : b < ws.heap.size) (h2 : b ≠ gR) (h3 : b ≠ w2.heap.size) => (heap_setCell_other w7 ⟨w2.heap.size, 3, none⟩ b (.slice (some ⟨g7, 0, none⟩) m7 c7) (by simpa using h3)).trans ((hlo7 b h1).trans ((hro.block b (by have h4 : w5.drew.heap.size = w5.heap.size := rfl; omega) (by simpa using h2)).trans (HLO5.out b h1 h2 h3))))
              have HH8 : Hid (ws.heap.size ≤ (w7.setCell ⟨w2.heap.size, 3, none⟩ (.slice (some ⟨g7, 0, none⟩) m7 c7)).heap.size) := hid (by simp [World.setCell]; omega)
              clear q0 q1 q2 q3 q4 s0 s1 s2 s3 s4 t0 t1 t2 t3 t4 tf hq7 hp7 ho7 hr7 hlo7 hos7 hq6 hr6 hg6 HP6 HO6 HO5 HL5 HP5 HQ5 HR5 HG5 HLO5 hx6 hro
              by_cases k8 : (tks T (j + 2)).t = [59]
              · have hm8 := HOK.out.more HM7.out (by rw [k8]; simp)
                have HT8 := hid (fun W (hh : RS W gR gt cap T (j + 2) 0) => ptake_yes hh HOK.out HM7.out (u := [59]) (by simp) k8)
                have HMR4 : Hid (varsM (tks T) F [] (i4 + 1) = varsM (tks T) m' (A ++ [(tks T (j + 1)).t]) (j + 3)) := hid (by rw [HMR3.out]; unfold takeR; rw [if_pos k8]; rfl)
                have HM8 := hid hm8
                clear HMR3 k8 hm8
                go_wp2_with fail
                refine (HT8.out _ HR8.out).mono ?_
                rintro e w9 ⟨rfl, hr9, hg9⟩
                have HR9 := hid hr9
                have HG9 := hid hg9
                clear hr9 hg9
                go_wp2_with fail
                go_roundg (T.length - (j + 3))
                case measure => have h1 := HM8.out; have h2 := HM.out; omega
                case rel =>
                  have hs9 := HG9.out.size
                  have hh8 := HH8.out
                  refine ⟨A ++ [(tks T (j + 1)).t], vs ++ [txC (tks T (j + 1)).t], j + 3, m', _, _, _, hid rfl, HQ8.out.grown HG9.out (by simp; omega), HP8.out.grown HG9.out (by simp; omega), HO8.out.kept HG9.out (by intro g e; simp at e; omega), HL8.out.imp fun a v h => h, HR9.out, grow_trans HG8.out HG9.out, by omega, fun b h1 h2 h3 => (HG9.out.block b (by omega) (by simpa using h2)).trans (HLO8.out b h1 h2 h3), HM8.out, by have := HJJ.out; omega, by have := HAJ.out; simp; omega, by have := HM2.out; omega, HMR4⟩
              · have HT8 := hid (fun W (hh : RS W gR gt cap T (j + 2) 0) => ptake_no hh HOK.out HM7.out (u := [59]) (by simp) k8)
                have HMR4 : Hid (varsM (tks T) F [] (i4 + 1) = .bad 4 (j + 2)) := hid (by rw [HMR3.out]; unfold takeR; rw [if_neg k8]; rfl)
                clear HMR3 k8
                go_wp2_with fail
                refine (HT8.out _ HR8.out).mono ?_
                rintro e w9 ⟨hg, hb9⟩
                unfold Gone at hg
                subst hg
                refine ⟨rfl, ?_⟩
                rw [HU5.out, HMR4.out]
                exact ⟨rfl, grow_below HG8.out hb9⟩
          · have HN7 := hid (pname_no HR5.out.drew HM6.out k7)
            have HMR3 : Hid (varsM (tks T) F [] (i4 + 1) = .bad 4 (j + 1)) := hid (by rw [HMR2.out]; unfold nameR; rw [if_neg k7]; rfl)
            have HUF : Hid (procR (tks T) F i = .bad 4 (j + 1)) := hid (by rw [HU5.out, HMR3.out]; rfl)
            clear HMR2 k7 HMR3
            have hq6 : Box5 w5.drew w2.heap.size (.string (str (tks T (i + 1)).t)) (.slice ap mp cp) (.string (str rs)) (.slice av mv cv) (.slice none 0 0) := HQ5.out
            have HP6 : Hid (Box5 w5.drew w.heap.size (.string ⟨#[]⟩) (.slice none 0 0) (.string ⟨#[]⟩) (.slice none 0 0) (.slice none 0 0)) := HP5
            have HO6 : Hid (OwnV w5.drew ws.heap.size 9 1 (.slice av mv cv) vs) := HO5
            have HL6 : Hid (AllV (TxQ w5.drew (fun _ => True)) A vs) := HL5
            have HR6 := hid HR5.out.drew
            have hz6 : ws.heap.size ≤ w5.drew.heap.size := hz5
            go_wp2_with fail
            go_region_law (first
              | (refine step_dead1 26 Tryd.func26 (by kernel_rfl) (by kernel_rfl) 54 (.pointer (some ⟨gR, 0, none⟩)) _ (.string (str [])) rfl (.tmp 25) rfl rfl HN7.out (fun e w9 hx => ⟨_, hx.1, rfl, (by rw [HUF.out]; exact ⟨rfl, grow_below (grow_drew HG5.out) hx.2⟩)⟩) ?_; intro hF; have HFx := hid hF; clear hF)
              | (refine step_text rfl (.tmp 24) (.tmp 27) rfl (b2 := w.heap.size) (b3 := w2.heap.size) (H := ws.heap.size) (a := []) hq6 HP6.out HO6.out HL6.out HR6.out HVL.out (by omega) (by omega) (by omega) rfl rfl hz6 ?_; intro g7 m7 c7 w7 hq7 hp7 ho7 hr7 hz7 hlo7 hos7; obtain ⟨t0, t1, t2, t3, t4⟩ := hq7.c; have tf := hq7.f; have tl := hq7.lt))
            all_goals exact HFx.out.elim
        · have HT6 := hid (ptakes_no hrr HOK.out hj (u := [118, 97, 114]) (by simp) k6)
          have HMR2 : Hid (varsM (tks T) F [] (i4 + 1) = .ok A j) := hid (HMR.out.trans (if_neg k6))
          have HU6 : Hid (procR (tks T) F i = (stmtsM (tks T) (stR (tks T) F F 0) F [] j).bind fun b i7 => .ok ⟨(tks T (i + 1)).t, ps, rs, A, b⟩ i7) := hid (by rw [HU5.out, HMR2.out]; rfl)
          have HS6 := hid (fun W (hh : RS W gR gt cap T j 0) => pstmts_any HOK.out HFF.out (pstmt_any HOK.out HFF.out F 0 (by omega)) (fun i hi => st_fine HOK.out F F 0 hi) W gR gt cap j hh HJ.out (by have := HFF.out; omega))
          clear hq hp hown hall hrr hgr hH hlow hj hjj hAj hm2 HMR k6 HQs HPs HRs HGs HMR2
          generalize hqq : stmtsM (tks T) (stR (tks T) F F 0) F [] j = qq at *
          clear hqq
          go_wp2_with fail
          refine HT6.out.mono ?_
          rintro e w5 ⟨rfl, hr5, hb5⟩
          have hz5 : ws.heap.size ≤ w5.heap.size := by have := hb5.size; have := HHr.out; omega
          have HQ5 := hid (HQr.out.keep hb5)
          have HP5 := hid (HPr.out.keep hb5)
          have HO5 := hid (HOr.out.below hb5)
          have HG5 := hid (grow_below HGr.out hb5)
          have HLO5 := hid (fun b (h1 : b < ws.heap.size) (h2 : b ≠ gR) (h3 : b ≠ w2.heap.size) => (hb5.block b (by have := HHr.out; omega)).trans (HLO.out b h1 h2 h3))
          clear hb5 HQr HPr HOr HGr HLO
          go_wp2_with fail
          refine (HS6.out _ hr5).mono ?_
          intro e w6 h6
          rcases rout_cases h6 with ⟨bd, l, v, hr, rfl, ⟨ab, mb, cb, rfl, hv⟩, hr6, hg6⟩ | ⟨x, l, hr, hg, hg6⟩
          · subst hr
            have HU7 : Hid (procR (tks T) F i = .ok ⟨(tks T (i + 1)).t, ps, rs, A, bd⟩ l) := hid (HU6.out.trans rfl)
            have hz6 : w5.heap.size ≤ w6.heap.size := hg6.size
            have hq6 := HQ5.out.grown hg6 (by simp; omega)
            have HP6 := hid (HP5.out.grown hg6 (by simp; omega))
            have HO6 := hid (HO5.out.kept hg6 (by intro g e; simp at e; omega))
            have hn : ∀ b, (w.heap.size + 1 ≤ b ∧ b ≠ w2.heap.size) → b ≠ w2.heap.size := fun b hb => hb.2
            have hA6 : Same ws w6 (fun b => w2.heap.size < b ∧ b < ws.heap.size) (fun b => w.heap.size + 1 ≤ b ∧ b ≠ w2.heap.size) := ⟨by omega, fun b hl hb => ⟨(hg6.block b (by omega) (by simp; omega)).trans (HLO5.out b hb.2 (by omega) (by omega)), by omega, by omega⟩⟩
            have HA8 := hid ((HAs.out.move hA6).move (same_s (g := w2.heap.size) (c := 4) (u := .slice ab mb cb) hn))
            have hlen1 : ∀ l ∈ vs, l.length = 1 := all_len_tx (w := w6) (ok := fun _ => True) (HLr.out.imp fun a v h => h)
            have HV8 : Hid (TxA (w6.setCell ⟨w2.heap.size, 4, none⟩ (.slice ab mb cb)) (fun b => w.heap.size + 1 ≤ b ∧ b ≠ w2.heap.size) av mv cv A) := hid ⟨vs, SlF.move (SlF.move (HO6.out.slf hlen1) (ok' := fun b => w.heap.size + 1 ≤ b ∧ b ≠ w2.heap.size) ⟨Nat.le_refl _, fun b _ hb => ⟨rfl, by omega, by omega⟩⟩) (same_s (g := w2.heap.size) (c := 4) (u := .slice ab mb cb) hn), HLr.out.imp fun a v h => h⟩
            have HB8 := hid ((hv.move (ok' := fun b => w.heap.size + 1 ≤ b ∧ b ≠ w2.heap.size) ⟨Nat.le_refl _, fun b _ hb => ⟨rfl, by omega, by omega⟩⟩).move (same_s (g := w2.heap.size) (c := 4) (u := .slice ab mb cb) hn))
            have HR8 := hid (hr6.new (b := w2.heap.size) (c := 4) (by omega) (by omega) (.slice ab mb cb))
            have HG8 := hid (grow_new (grow_trans HG5.out hg6) (b := w2.heap.size) (by omega) 4 (.slice ab mb cb))
            have HP8 := hid (HP6.out.other (b := w2.heap.size) (c := 4) (by omega) (.slice ab mb cb))
            obtain ⟨q0, q1, q2, q3, q4⟩ := hq6.c
            have qf := hq6.f
            have ql := hq6.lt
            obtain ⟨p0, p1, p2, p3, p4⟩ := HP6.out.c
            have pf := HP6.out.f
            have pl := HP6.out.lt
            have hne : ¬ w2.heap.size = w.heap.size := by omega
            have hne2 : ¬ w.heap.size = w2.heap.size := by omega
            clear h6 hv hr5 hr6 hg6 hq6 HU6 hA6 hlen1 HO6 HO5 HQ5 HP5 HG5 hn
            go_wp2_with fail
            refine bodyPost_ret (res_proc _ rfl (HP8.out.store _ _ _ _ _)) rfl ?_
            rw [HU7.out]
            refine prout_close (N := w.heap.size + 1) (w3 := w6.setCell ⟨w2.heap.size, 4, none⟩ (.slice ab mb cb)) ?_ HR8.out hz HG8.out (by omega) ⟨ap, mp, cp, av, mv, cv, ab, mb, cb, rfl, HA8.out.move ⟨Nat.le_refl _, fun b _ hb => ⟨rfl, hb.1⟩⟩, HV8.out.move ⟨Nat.le_refl _, fun b _ hb => ⟨rfl, hb.1⟩⟩, HB8.out.move ⟨Nat.le_refl _, fun b _ hb => ⟨rfl, hb.1⟩⟩⟩
            (repeat (first | with_reducible exact Mid.refl _ _ _ | (with_reducible refine Mid.set ?_ (by omega) (by omega) _)))
          · unfold Gone at hg
            subst hg
            subst hr
            refine ⟨rfl, ?_⟩
            rw [HU6.out]
            exact ⟨rfl, grow_trans HG5.out hg6⟩
end
end Go.Proofs.YtjofhaakkleecaaDoor
