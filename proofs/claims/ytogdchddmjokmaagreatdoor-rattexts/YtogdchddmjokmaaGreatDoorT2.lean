/-
  Walks: the document's own text of a number.
-/
import Derived.Test.YtogdchddmjokmaaGreatDoorT1
import Derived.Test.YtogdchddmjokmaaGreatDoorWB
namespace Go.Proofs.YtogdchddmjokmaaGreatDoor
open Go.RowKit Lm
set_option linter.unusedSimpArgs false
set_option linter.unusedVariables false
set_option maxRecDepth 100000

/-- Limbs that lie in a block of limbs. -/
def Typed (w : World) (ao : Option Addr) : Prop := ∃ b off cs, ao = some ⟨b, off, none⟩ ∧ w.heap[b]? = some (.cells cs 55 (0, 0))
theorem SlAt.keptB {w w' : World} {ao : Option Addr} {cap : Nat} {l : List Nat} {row : Option Nat} (h : SlAt w ao cap l) (hg : w.grownBy w' row) (hne : ∀ b off, ao = some ⟨b, off, none⟩ → row ≠ some b) : SlAt w' ao cap l := by
  obtain ⟨h1, h2, h3, h4⟩ := h
  refine ⟨h1, h2, h3, ?_⟩
  rcases h4 with h4 | ⟨b, off, rfl, hlt, hc⟩
  · exact .inl h4
  · exact .inr ⟨b, off, rfl, Nat.lt_of_lt_of_le hlt hg.size, fun i hi => hg.cell (hc i hi) (by have := hne b off rfl; simpa using Ne.symm this)⟩
theorem own_typed {w : World} {base n : Nat} {v : Value} {xs : List Value} {ao : Option Addr} (h : w.ownsRow base 5 1 v n xs) (ht : Typed w ao) : ∀ b off, ao = some ⟨b, off, none⟩ → v.ownBlock ≠ some b := by
  intro b off e e2
  obtain ⟨b', off', cs, rfl, hh⟩ := ht
  simp only [Option.some.injEq, Addr.mk.injEq, and_true] at e
  obtain ⟨rfl, rfl⟩ := e
  rcases h.2 with ⟨rfl, _⟩ | ⟨g, cap, cur, rfl, _, hg, _⟩
  · simp [Value.ownBlock] at e2
  · simp [Value.ownBlock] at e2
    subst e2
    rw [hg] at hh
    simp at hh
theorem Typed.kept {w w' : World} {ao : Option Addr} {row : Option Nat} (h : Typed w ao) (hg : w.grownBy w' row) (hne : ∀ b off, ao = some ⟨b, off, none⟩ → row ≠ some b) : Typed w' ao := by
  obtain ⟨b, off, cs, rfl, hh⟩ := h
  exact ⟨b, off, cs, rfl, (hg.block b (Array.getElem?_eq_some_iff.1 hh).1 (by have := hne b off rfl; simpa using Ne.symm this)).trans hh⟩

/-- What stands at the head of a round of Text. -/
def TxtRel (w : World) (base L N m : Nat) (dv lv : Value) (wr : World) : Prop :=
  ∃ (A D : List Nat) (ao : Option Addr) (cap : Nat), m = val A ∧ lv = .slice ao A.length cap ∧ SlAt wr ao cap A ∧ canon A ∧ A.length ≤ L ∧ wr.ownsRow base 5 1 dv D.length (Bs D) ∧ dig D ∧ (dv.ownBlock = none ∨ Typed wr ao) ∧ (val A = 0 → D.getLast? ≠ some 48) ∧ D.length ≤ 32 * L + 1 ∧ val A * 2 ^ D.length ≤ N ∧ decv D + p10 D.length * val A = N ∧ Below w.heap.size w wr

def TxtMid (W1 : World) (T : List Nat) (dv : Value) (wc : World) : Prop := ∃ g cap, dv = .slice (some ⟨g, 0, none⟩) T.length cap ∧ W1.heap.size ≤ g ∧ wc.ownsRow W1.heap.size 5 1 (.slice (some ⟨g, 0, none⟩) T.length cap) T.length (Bs T) ∧ Below W1.heap.size W1 wc

set_option maxHeartbeats 1600000 in
theorem rtext_num (w : World) (v : Value) (n : Nat) (z : Int) (h : Arg w v n z) (hn : n ≤ 1000000) :
    Calls Tryz.prog 24 #[v] w fun e w' => e = .returned (.string (str (textOf z))) ∧ Below w.heap.size w w' := by
  obtain ⟨i0, hi, hz0, hz1, hz2⟩ := info_parts Tryz.info8
  have hA := h
  obtain ⟨neg0, sv0, l0, rfl, -⟩ := h
  have HA := hid hA
  clear hA
  go_enter Tryz.func24, Tryz.ntmps24
  go_wp2_with fail
  refine (rnorm_num w _ _ n z HA.out (by repeat (first | exact Below.refl _ _ | refine Below.alloc ?_ ?_ _ | refine Below.setCell ?_ ?_ _ | refine Below.drew ?_ | refine below_drewN ?_ _ | (· simp) | omega | (· simp; omega) | exact Below.size (by assumption) | assumption | refine below_call ?_ (by assumption) ?_))).mono ?_
  rintro e w1 ⟨neg, ao, cap, l, rfl, hs, hln, hm, hz, hb⟩
  have HM := hid hm
  have HZ := hid hz
  clear hm hz HA
  obtain ⟨hc1, hf1⟩ := bcell hb
  have hy1 := hb.size
  simp at hy1
  have hcm := hs.2.2.1
  have hlc := hs.2.1
  unfold maxLen at hcm
  by_cases hl : l.length = 0
  · have HT : Hid (textOf z = [48]) := hid (by rw [HZ.out, List.eq_nil_of_length_eq_zero hl]; cases neg <;> simp [sgn, val, textOf])
    go_wp2_with fail
    go_ret
    exact ⟨by rw [HT.out]; rfl, (by repeat (first | exact Below.refl _ _ | refine Below.alloc ?_ ?_ _ | refine Below.setCell ?_ ?_ _ | refine Below.drew ?_ | refine below_drewN ?_ _ | (· simp) | omega | (· simp; omega) | exact Below.size (by assumption) | assumption | refine below_call ?_ (by assumption) ?_))⟩
  · have hvl : 0 < val l := by
      have h1 := canon_pos (may_canon HM.out) (by intro e; subst e; simp at hl)
      have h2 := pw_pos (l.length - 1)
      omega
    have HVL := hid hvl
    have HCL := hid (may_canon HM.out)
    have HN := hid (val_lt hs.1)
    clear hvl HM
    have hW1 : Below w.heap.size w ((w1.setCell ⟨w.heap.size, 0, none⟩ (.bool neg)).setCell ⟨w.heap.size, 1, none⟩ (.slice ao l.length cap)) := (by repeat (first | exact Below.refl _ _ | refine Below.alloc ?_ ?_ _ | refine Below.setCell ?_ ?_ _ | refine Below.drew ?_ | refine below_drewN ?_ _ | (· simp) | omega | (· simp; omega) | exact Below.size (by assumption) | assumption | refine below_call ?_ (by assumption) ?_))
    have hs1 := hs.below hW1
    have hp0 : ((w1.setCell ⟨w.heap.size, 0, none⟩ (.bool neg)).setCell ⟨w.heap.size, 1, none⟩ (.slice ao l.length cap)).cell? ⟨w.heap.size, 0, none⟩ = some (.bool neg) := by simp [go_sem, hc1, show w.heap.size ≤ w1.heap.size by omega]
    have hlt0 : w.heap.size < ((w1.setCell ⟨w.heap.size, 0, none⟩ (.bool neg)).setCell ⟨w.heap.size, 1, none⟩ (.slice ao l.length cap)).heap.size := by simp; omega
    have HW1 := hid hW1
    have HS1 := hid hs1
    have HP0 := hid hp0
    clear hs hs1 hW1 hp0
    go_wp2
    generalize (w1.setCell ⟨w.heap.size, 0, none⟩ (.bool neg)).setCell ⟨w.heap.size, 1, none⟩ (.slice ao l.length cap) = W1 at *
    clear hc1 hf1 hb hy1
    rw [show ((l.length : Int) == 0) = false by simp; intro e; subst e; simp at hl]
    go_loopg [3, 4] (val l) (fun m dv lv wr => TxtRel W1 W1.heap.size l.length (val l) m dv lv wr)
    case atStart => exact ⟨l, [], ao, cap, rfl, rfl, HS1.out, HCL.out, Nat.le_refl _, World.ownsRow_nil _ _ _ _, by intro c hc; simp at hc, .inl rfl, by simp, by simp, by simp, by simp [decv, p10], Below.refl _ _⟩
    case round =>
      obtain ⟨A, D, aa, ca, hgk, rfl, hsA, hcA, hAL, hown, hD, hty, hlast, hdb, hvk, hsum, hbw⟩ := hrel
      have HDB := hid hdb
      clear hdb
      have HGK := hid hgk
      have HS := hid hsum
      have HVK := hid hvk
      have HD := hid hD
      have HLA := hid hlast
      clear hgk hsum hvk hD hlast
      have hcm2 := hsA.2.2.1
      have hlc2 := hsA.2.1
      unfold maxLen at hcm2
      by_cases hA0 : A.length = 0
      · have hv0 : val A = 0 := by rw [List.eq_nil_of_length_eq_zero hA0]; rfl
        have HDE : Hid (D = decs (val l)) := hid (decs_eq HD.out (HLA.out hv0) (by have := HS.out; rw [hv0] at this; simpa using this))
        clear HS HGK HVK hv0 HLA HD hty hsA hcA
        rw [hA0]
        have hD0 : 0 < D.length := by
          have := decs_ne HVL.out
          rw [← HDE.out] at this
          exact List.length_pos_iff.2 this
        have hDb : D.length ≤ 400000000 := by have := HDB.out; omega
        obtain ⟨ao2, cap2, rfl, -⟩ := ownB_shape hown
        obtain ⟨g, rfl, hg⟩ := ownB_some hown hD0
        have hp0 := (hbw.cell (p := ⟨w.heap.size, 0, none⟩) hlt0).trans HP0.out
        have hlt1 : w.heap.size < wr.heap.size := Nat.lt_of_lt_of_le hlt0 hbw.size
        go_upto_if 33 with fail
        go_cut [3] from 34 (fun dv wc => TxtMid W1 (textOf z).reverse dv wc)
        case first =>
          cases neg
          · have HT : Hid ((textOf z).reverse = D) := hid (by rw [HZ.out, text_pos HVL.out, HDE.out, List.reverse_reverse])
            go_wp2
            go_meet
            exact ⟨g, cap2, by rw [HT.out], hg, by rw [HT.out]; exact hown, hbw⟩
          · have HT : Hid ((textOf z).reverse = D ++ [45]) := hid (by rw [HZ.out, text_neg HVL.out, HDE.out, List.reverse_reverse])
            go_wp2_with (at_builtin; go_must (refine wpList_append_own _ rfl _ _ 71 rfl W1.heap.size 5 i0 (.int .u8 0) 1 1 Tryz.underlying71 hi hz0 hz1 hz2 rfl (by decide) _ _ _ rfl (hown.alloc _) ⟨wr.heap.size, 0, none⟩ 1 1 [.int .u8 45] rfl rfl ?_ ?_ ?_ ?_ ?_ ?_))
            · intro q u hq
              match q, hq with
              | 0, hq => simp at hq; subst hq; simp [Addr.add]
            · intro u hu; simp at hu; subst hu; rfl
            · unfold maxLen; omega
            · omega
            · have := hbw.size; simp; omega
            · intro v' w5 hown5 hgrow _
              have e1 : Bs D ++ [.int .u8 45] = Bs (D ++ [45]) := by simp [Bs]
              rw [e1] at hown5
              obtain ⟨ao5, cap5, rfl, _⟩ := ownB_shape hown5
              obtain ⟨g5, rfl, hg5⟩ := ownB_some hown5 (by omega)
              have hb5 : Below W1.heap.size W1 w5 := (hbw.alloc hbw.size _).grown hgrow (by simp; have := hbw.size; omega) (fun q e => by simp [Value.ownBlock] at e; omega)
              have HO5 := hid hown5
              have HB5 := hid hb5
              clear hown hgrow hown5 hb5 hbw e1
              go_wp2
              go_meet
              exact ⟨g5, cap5, by rw [HT.out]; simp, hg5, by rw [HT.out]; simpa using HO5.out, HB5.out⟩
        case rest =>
          clear hown hbw hp0 hg hD0
          obtain ⟨g1, cap1, rfl, hg1, hown1, hbw1⟩ := hcut
          have hTb : (textOf z).reverse.length ≤ 400000001 := by
            rw [HZ.out]
            cases neg
            · rw [text_pos HVL.out, List.reverse_reverse, ← HDE.out]; omega
            · rw [text_neg HVL.out, List.reverse_reverse, ← HDE.out]; simp; omega
          have HTE : Hid ((textOf z).reverse.reverse = textOf z) := hid (List.reverse_reverse _)
          generalize (textOf z).reverse = T at *
          go_wp2
          go_loopw [7] (fun iv wq => ∃ (k : Nat) (C : List Nat), 2 * k ≤ T.length ∧ iv = .int .i64 k ∧ Hid (Turned T C k) ∧ wq.ownsRow W1.heap.size 5 1 (.slice (some ⟨g1, 0, none⟩) T.length cap1) T.length (Bs C) ∧ Below W1.heap.size W1 wq) (fun iv wq => T.length - (intOf iv).toNat)
          case atStart => exact ⟨0, T, Nat.zero_le _, rfl, turned_zero T, hown1, hbw1⟩
          case round =>
            clear hown1 hbw1
            obtain ⟨k, C, hk, rfl, HT, hown, hgw⟩ := hrel
            by_cases hlt : 2 * k + 2 ≤ T.length
            · have hx : wr.cell? ⟨g1, k, none⟩ = some (.int .u8 ((T.getD k 0 : Nat) : Int)) := by
                rw [hown.cellAt k (by omega)]
                have := HT.out.2 k (by omega)
                rw [if_neg (by omega)] at this
                rw [← this]
                simp [Bs, List.getD_eq_getElem?_getD, show k < C.length by rw [HT.out.1]; omega]
              have hy : wr.cell? ⟨g1, T.length - 1 - k, none⟩ = some (.int .u8 ((T.getD (T.length - 1 - k) 0 : Nat) : Int)) := by
                rw [hown.cellAt (T.length - 1 - k) (by omega)]
                have := HT.out.2 (T.length - 1 - k) (by omega)
                rw [if_neg (by omega)] at this
                rw [← this]
                simp [Bs, List.getD_eq_getElem?_getD, show T.length - 1 - k < C.length by rw [HT.out.1]; omega]
              have hfx := hown.frozenAt k
              have hfy := hown.frozenAt (T.length - 1 - k)
              have hlt1 : (k : Int) < (T.length : Int) / 2 := by omega
              have hlt2 : (k : Int) < (T.length : Int) - 1 - k := by omega
              have hkT : k < T.length := by omega
              have HTS := hid (turned_step HT.out (by omega))
              obtain ⟨a, ha⟩ : ∃ a, a = T.getD k 0 := ⟨_, rfl⟩
              obtain ⟨b, hb⟩ : ∃ b, b = T.getD (T.length - 1 - k) 0 := ⟨_, rfl⟩
              rw [← ha] at hx HTS
              rw [← hb] at hy HTS
              clear ha hb
              go_wp2
              go_roundw
              case rel =>
                refine ⟨k + 1, (C.set k b).set (T.length - 1 - k) a, by omega, by go_num, HTS, ?_, (hgw.setCell hg1 _).setCell hg1 _⟩
                have h1 := ((hown.stored k (.int .u8 (b : Int))).1).stored (T.length - 1 - k) (.int .u8 (a : Int))
                have e : Bs ((C.set k b).set (T.length - 1 - k) a) = ((Bs C).set k (.int .u8 (b : Int))).set (T.length - 1 - k) (.int .u8 (a : Int)) := by simp [Bs, List.map_set]
                rw [e]
                exact h1.1
              case measure => simp [intOf]; omega
            · have hlt1 : ¬ (k : Int) < (T.length : Int) / 2 := by omega
              have hC : C = T.reverse := turned_done HT.out (by omega)
              subst hC
              have hrun := run_str wr W1.heap.size g1 cap1 T.reverse (by rw [List.length_reverse]; exact hown)
              rw [List.length_reverse] at hrun
              have HR := hid (below_call HW1.out hgw HW1.out.size)
              clear hown hgw
              go_wp2
              go_ret
              exact ⟨by rw [HTE.out]; rfl, HR.out⟩
      · have hvA : 0 < val A := by
          have h1 := canon_pos hcA (by intro e; subst e; simp at hA0)
          have h2 := pw_pos (A.length - 1)
          omega
        have hkL : D.length ≤ 32 * l.length := rounds_le hvA HVK.out HN.out
        have hA1 : (0 : Int) < (A.length : Int) := by omega
        have HVA := hid hvA
        have hsA' := hsA
        clear hvA
        go_wp2_with fail
        refine (rsmall_any _ aa ca A 10 hsA (by omega) (by omega) (by omega) 10 rfl).mono ?_
        rintro e w2 ⟨k2, c2, Q, r, rfl, hk2, hsQ, ⟨cs, hty2⟩, hcQ, hQL, hvQ, hr10, hb2⟩
        have hown2 : w2.ownsRow W1.heap.size 5 1 u3 D.length (Bs D) := hown.kept (row := none) ⟨hb2.os, hb2.tape, hb2.output, hb2.size, fun k hk _ => hb2.block k hk⟩ (by cases hv : u3.ownBlock with | none => exact .inl rfl | some g => exact .inr (by simp))
        have hbw2 := below_call hbw hb2 hbw.size
        have hT2 : Typed (w2.alloc (.cells #[.int .u8 (48 + (r : Int))] 5)) (some ⟨wr.heap.size, 0, none⟩) := ⟨_, _, cs, rfl, (Below.heap_alloc w2 _ _ (Array.getElem?_eq_some_iff.1 hty2).1).trans hty2⟩
        have HVQ := hid hvQ
        have HK2 := hid hk2
        have HSQ := hid (hsQ.alloc (.cells #[.int .u8 (48 + (r : Int))] 5))
        have HT2 := hid hT2
        clear hvQ hk2 hsQ hT2 hty2 hb2 hbw hown hty hsA hsA'
        go_wp2_with (at_builtin; go_must (refine wpList_append_own _ rfl _ _ 71 rfl W1.heap.size 5 i0 (.int .u8 0) 1 1 Tryz.underlying71 hi hz0 hz1 hz2 rfl (by decide) _ _ _ rfl (hown2.alloc _) ⟨w2.heap.size, 0, none⟩ 1 1 [.int .u8 (48 + (r : Int))] rfl rfl ?_ ?_ ?_ ?_ ?_ ?_))
        · intro q u hq
          match q, hq with
          | 0, hq => simp at hq; subst hq; simp [Addr.add]
        · intro u hu; simp at hu; subst hu; rfl
        · unfold maxLen; omega
        · omega
        · have := hbw2.size; simp; omega
        · intro v' w5 hown5 hgrow _
          have hne5 := own_typed (hown2.alloc (.cells #[.int .u8 (48 + (r : Int))] 5)) HT2.out
          have hsQ5 := HSQ.out.keptB hgrow hne5
          have hT5 := HT2.out.kept hgrow hne5
          have hb5 : Below W1.heap.size W1 w5 := (hbw2.alloc hbw2.size _).grown hgrow (by simp; have := hbw2.size; omega) (fun q e => (hown2.lt _ e).1)
          have e1 : Bs D ++ [.int .u8 (48 + (r : Int))] = Bs (D ++ [48 + r]) := by simp [Bs]
          rw [e1] at hown5
          have HO := hid hown5
          have HSQ5 := hid hsQ5
          have HT5 := hid hT5
          have HB5 := hid hb5
          have HCQ := hid hcQ
          clear hown5 hgrow hown2 hsQ5 hT5 hb5 hne5 e1 hcQ HSQ HT2 hbw2
          rw [HK2.out]
          go_wp2
          go_roundg (val Q)
          case measure => rw [HGK.out]; have h1 := HVQ.out; have h2 := HVA.out; omega
          case rel =>
            have h1 := HVQ.out
            have h2 := HVA.out
            refine ⟨Q, D ++ [48 + r], _, c2, rfl, rfl, HSQ5.out, HCQ.out, by omega, by rw [List.length_append]; exact HO.out, ?_, .inr HT5.out, ?_, by rw [List.length_append, List.length_singleton]; omega, ?_, ?_, HB5.out⟩
            · rw [dig_append]
              exact ⟨HD.out, by intro c hc; simp at hc; omega⟩
            · intro h0
              rw [List.getLast?_append]
              simp
              omega
            · have h3 := HVK.out
              have h4 : val Q * 2 * 2 ^ D.length ≤ val A * 2 ^ D.length := Nat.mul_le_mul_right _ (by omega)
              rw [List.length_append, List.length_singleton, Nat.pow_succ, Nat.mul_comm (2 ^ D.length) 2, ← Nat.mul_assoc]
              omega
            · rw [decv_snoc D (48 + r) (by omega), List.length_append, List.length_singleton, p10_add, show 48 + r - 48 = r by omega, ← HS.out, h1]
              show _ + p10 D.length * 10 * val Q = _
              rw [Nat.mul_add, Nat.mul_assoc, Nat.mul_comm 10 (val Q), Nat.add_assoc, Nat.add_comm (p10 D.length * r)]

end Go.Proofs.YtogdchddmjokmaaGreatDoor
