/-
  Walks: bytes turned round; the text of a number.
-/
import Derived.Test.YtalblhcfkfockaaW6
import Derived.Laws.BytesArg
namespace Go.Proofs.Ytalblhcfkfockaa
open Go.RowKit Lm
set_option linter.unusedSimpArgs false
set_option linter.unusedVariables false
set_option maxRecDepth 100000

/-- C is D with k bytes at each end turned round. -/
def Turned (D C : List Nat) (k : Nat) : Prop := C.length = D.length ∧ ∀ x, x < D.length → C.getD x 0 = if x < k ∨ D.length - k ≤ x then D.getD (D.length - 1 - x) 0 else D.getD x 0

theorem turned_zero (D : List Nat) : Turned D D 0 := ⟨rfl, fun x hx => by rw [if_neg (by omega)]⟩
theorem getD_set {l : List Nat} {i x j : Nat} (hi : i < l.length) : (l.set i x).getD j 0 = if j = i then x else l.getD j 0 := by
  simp only [List.getD_eq_getElem?_getD, List.getElem?_set]
  by_cases h : j = i
  · subst h; simp [hi]
  · rw [if_neg (by omega), if_neg h]
theorem turned_step {D C : List Nat} {k : Nat} (h : Turned D C k) (hk : k < D.length - 1 - k) : Turned D ((C.set k (D.getD (D.length - 1 - k) 0)).set (D.length - 1 - k) (D.getD k 0)) (k + 1) := by
  obtain ⟨h1, h2⟩ := h
  refine ⟨by simp [h1], fun x hx => ?_⟩
  rw [getD_set (by simp [h1]; omega), getD_set (by omega)]
  by_cases e1 : x = D.length - 1 - k
  · rw [if_pos e1, if_pos (by omega)]
    congr 1; omega
  · rw [if_neg e1]
    by_cases e2 : x = k
    · subst e2
      rw [if_pos rfl, if_pos (by omega)]
    · rw [if_neg e2, h2 x hx]
      by_cases e3 : x < k ∨ D.length - k ≤ x
      · rw [if_pos e3, if_pos (by omega)]
      · rw [if_neg e3, if_neg (by omega)]
theorem turned_done {D C : List Nat} {k : Nat} (h : Turned D C k) (hk : D.length ≤ 2 * k + 1) : C = D.reverse := by
  obtain ⟨h1, h2⟩ := h
  apply List.ext_getElem?
  intro x
  by_cases hx : x < D.length
  · have h3 := h2 x hx
    rw [List.getElem?_reverse hx]
    rw [List.getD_eq_getElem?_getD, List.getElem?_eq_getElem (by omega)] at h3
    rw [List.getElem?_eq_getElem (by omega), List.getElem?_eq_getElem (by omega)]
    simp only [Option.getD_some] at h3
    congr 1
    rw [h3]
    by_cases e : x < k ∨ D.length - k ≤ x
    · rw [if_pos e, List.getD_eq_getElem?_getD, List.getElem?_eq_getElem (by omega)]; rfl
    · have e2 : D.length - 1 - x = x := by omega
      rw [if_neg e, List.getD_eq_getElem?_getD, List.getElem?_eq_getElem (by omega)]
      simp [e2]
  · rw [List.getElem?_eq_none (by omega), List.getElem?_eq_none (by simp; omega)]

set_option maxHeartbeats 1600000 in
theorem reverse_any (w : World) (base g cap : Nat) (D : List Nat) (h : w.ownsRow base 5 1 (.slice (some ⟨g, 0, none⟩) D.length cap) D.length (Bs D)) (hl : D.length ≤ 1000000000) :
    Calls Try.prog 79 #[.slice (some ⟨g, 0, none⟩) D.length cap] w fun e w' => e = .returned (.tuple #[]) ∧ w'.ownsRow base 5 1 (.slice (some ⟨g, 0, none⟩) D.length cap) D.length (Bs D.reverse) ∧ w.grownBy w' (some g) := by
  go_enter Try.func79, Try.ntmps79
  go_wp2
  go_loopw [2, 3] (fun iv jv wr => ∃ (k : Nat) (C : List Nat), k ≤ D.length ∧ iv = .int .i64 k ∧ jv = .int .i64 ((D.length : Int) - 1 - k) ∧ Hid (Turned D C k) ∧ wr.ownsRow base 5 1 (.slice (some ⟨g, 0, none⟩) D.length cap) D.length (Bs C) ∧ w.grownBy wr (some g)) (fun iv jv wr => D.length - (intOf iv).toNat)
  case atStart => exact ⟨0, D, Nat.zero_le _, rfl, by go_num, turned_zero D, h, grow_refl _ _⟩
  case round =>
    obtain ⟨k, C, hk, rfl, rfl, HT, hown, hgw⟩ := hrel
    by_cases hlt : k < D.length - 1 - k
    · have hx : wr.cell? ⟨g, k, none⟩ = some (.int .u8 ((D.getD k 0 : Nat) : Int)) := by
        rw [hown.cellAt k (by omega)]
        have := HT.out.2 k (by omega)
        rw [if_neg (by omega)] at this
        rw [← this]
        simp [Bs, List.getD_eq_getElem?_getD, show k < C.length by rw [HT.out.1]; omega]
      have hy : wr.cell? ⟨g, D.length - 1 - k, none⟩ = some (.int .u8 ((D.getD (D.length - 1 - k) 0 : Nat) : Int)) := by
        rw [hown.cellAt (D.length - 1 - k) (by omega)]
        have := HT.out.2 (D.length - 1 - k) (by omega)
        rw [if_neg (by omega)] at this
        rw [← this]
        simp [Bs, List.getD_eq_getElem?_getD, show D.length - 1 - k < C.length by rw [HT.out.1]; omega]
      have hfx := hown.frozenAt k
      have hfy := hown.frozenAt (D.length - 1 - k)
      have hlt1 : (k : Int) < (D.length : Int) - 1 - k := by omega
      have HTS := hid (turned_step HT.out hlt)
      obtain ⟨a, ha⟩ : ∃ a, a = D.getD k 0 := ⟨_, rfl⟩
      obtain ⟨b, hb⟩ : ∃ b, b = D.getD (D.length - 1 - k) 0 := ⟨_, rfl⟩
      rw [← ha] at hx HTS
      rw [← hb] at hy HTS
      clear ha hb
      go_wp2
      go_region
      go_wp2
      go_roundw
      case rel =>
        refine ⟨k + 1, (C.set k b).set (D.length - 1 - k) a, by omega, by go_num, by go_num, HTS, ?_, grow_drew (grow_set (grow_set hgw _ _) _ _)⟩
        have h1 := (((hown.stored k (.int .u8 (b : Int))).1).stored (D.length - 1 - k) (.int .u8 (a : Int))).1.drew
        have e : Bs ((C.set k b).set (D.length - 1 - k) a) = ((Bs C).set k (.int .u8 (b : Int))).set (D.length - 1 - k) (.int .u8 (a : Int)) := by simp [Bs, List.map_set]
        rw [e]
        exact h1
      case measure => simp [intOf]; omega
    · go_wp2
      go_end0
      have := turned_done HT.out (by omega)
      subst this
      exact ⟨rfl, hown, hgw⟩

/-- Bytes as a string. -/
def str (l : List Nat) : ByteArray := ⟨(l.map UInt8.ofNat).toArray⟩

theorem run_str (w : World) (base g cap : Nat) (D : List Nat) (h : w.ownsRow base 5 1 (.slice (some ⟨g, 0, none⟩) D.length cap) D.length (Bs D)) :
    (convert 48 9 (.slice (some ⟨g, 0, none⟩) D.length cap)).run Try.prog w = .ok (.string (str D)) w := by
  have h1 := run_convert_bytes_arg (P := Try.prog) (w := w) 48 5 Try.underlying48 Try.underlying5 g 0 D.length cap (D.map (fun (x : Nat) => (x : Int))) (by simp) (fun i hi => by
    rw [Nat.zero_add, h.cellAt i (by omega)]
    simp [Bs, List.getD_eq_getElem?_getD, hi]) 9 Try.underlying9
  rw [h1]
  congr 2
  simp [strOfNums, str]

theorem decs_ne {n : Nat} (h : 0 < n) : decs n ≠ [] := by
  unfold decs
  simp only [decsF]
  rw [if_neg (by omega)]
  simp
theorem ownB_some {w : World} {base : Nat} {ao : Option Addr} {cap n : Nat} {xs : List Value} (h : w.ownsRow base 5 1 (.slice ao n cap) n xs) (hn : 0 < n) : ∃ g, ao = some ⟨g, 0, none⟩ ∧ base ≤ g := by
  rcases h.2 with ⟨_, rfl⟩ | ⟨g, cap', cur, h', hbg, _⟩
  · omega
  · simp only [Value.slice.injEq, true_and] at h'
    exact ⟨g, h'.1, hbg⟩
theorem text_pos {l : List Nat} (hv : 0 < val l) : textOf (sgn false (val l)) = (decs (val l)).reverse := by
  unfold textOf sgn
  rw [if_neg (by simp; omega), if_neg (by simp)]
  simp
theorem text_neg {l : List Nat} (hv : 0 < val l) : textOf (sgn true (val l)) = (decs (val l) ++ [45]).reverse := by
  unfold textOf sgn
  rw [if_neg (by simp; omega), if_pos (by simp; omega)]
  simp

set_option maxHeartbeats 1600000 in
theorem text_num (w : World) (v : Value) (n : Nat) (z : Int) (h : Arg w v n z) (hn : n ≤ 1000000) :
    Calls Try.prog 57 #[v] w fun e w' => e = .returned (.string (str (textOf z))) ∧ Below w.heap.size w w' := by
  obtain ⟨i0, hi, hz0, hz1, hz2⟩ := info_parts Try.info8
  have hA := h
  obtain ⟨neg0, sv0, l0, rfl, -⟩ := h
  have HA := hid hA
  clear hA
  go_enter Try.func57, Try.ntmps57
  go_wp2_with fail
  refine (counted_num w _ _ n z HA.out (by repeat (first | exact Below.refl _ _ | refine Below.alloc ?_ ?_ _ | refine Below.setCell ?_ ?_ _ | refine Below.drew ?_ | refine below_drewN ?_ _ | (· simp) | omega | (· simp; omega) | exact Below.size (by assumption) | assumption | refine below_call ?_ (by assumption) ?_))).mono ?_
  rintro e w1 ⟨neg, ao, cap, l, rfl, hs, hln, hm, hz, hb⟩
  have HM := hid hm
  have HZ := hid hz
  clear hm hz HA
  obtain ⟨hc1, hf1⟩ := bcell hb
  have hy1 := hb.size
  simp at hy1
  have hcm := hs.2.2.1
  have hlc := hs.2.1
  unfold maxLen at hcm
  by_cases hl : l.length = 0
  · have HT : Hid (textOf z = [48]) := hid (by rw [HZ.out, List.eq_nil_of_length_eq_zero hl]; cases neg <;> simp [sgn, val, textOf])
    go_wp2_with fail
    go_ret
    exact ⟨by rw [HT.out]; rfl, (by repeat (first | exact Below.refl _ _ | refine Below.alloc ?_ ?_ _ | refine Below.setCell ?_ ?_ _ | refine Below.drew ?_ | refine below_drewN ?_ _ | (· simp) | omega | (· simp; omega) | exact Below.size (by assumption) | assumption | refine below_call ?_ (by assumption) ?_))⟩
  · have hvl : 0 < val l := by
      have h1 := canon_pos (may_canon HM.out) (by intro e; subst e; simp at hl)
      have h2 := pw_pos (l.length - 1)
      omega
    have HVL := hid hvl
    clear hvl
    go_wp2_with fail
    refine (digitsOf_any _ ao cap l (by exact hs.below (by repeat (first | exact Below.refl _ _ | refine Below.alloc ?_ ?_ _ | refine Below.setCell ?_ ?_ _ | refine Below.drew ?_ | refine below_drewN ?_ _ | (· simp) | omega | (· simp; omega) | exact Below.size (by assumption) | assumption | refine below_call ?_ (by assumption) ?_))) (by omega) (may_canon HM.out)).mono ?_
    rintro e w2 ⟨D, ao2, cap2, rfl, hown, hD, hDl, hb2⟩
    have hD0 : 0 < D.length := by
      have := decs_ne HVL.out
      rw [← hD] at this
      exact List.length_pos_iff.2 this
    obtain ⟨g, rfl, hg⟩ := ownB_some hown hD0
    have hp0 : w2.cell? ⟨w.heap.size, 0, none⟩ = some (.bool neg) := (hb2.cell (p := ⟨w.heap.size, 0, none⟩) (by show w.heap.size < _; simp; omega)).trans (by simp [go_sem, hc1, show w.heap.size ≤ w1.heap.size by omega])
    have hbw : Below w.heap.size w w2 := (by repeat (first | exact Below.refl _ _ | refine Below.alloc ?_ ?_ _ | refine Below.setCell ?_ ?_ _ | refine Below.drew ?_ | refine below_drewN ?_ _ | (· simp) | omega | (· simp; omega) | exact Below.size (by assumption) | assumption | refine below_call ?_ (by assumption) ?_))
    have HD := hid hD
    obtain ⟨base, hbase⟩ : ∃ base, base = ((w1.setCell ⟨w.heap.size, 0, none⟩ (.bool neg)).setCell ⟨w.heap.size, 1, none⟩ (.slice ao l.length cap)).heap.size + 1 := ⟨_, rfl⟩
    have hbase2 : w.heap.size ≤ base := by rw [hbase]; simp; omega
    rw [← hbase] at hown hg
    clear hD hb2 hc1 hf1 hb hs hbase
    cases neg
    · go_wp2_with fail
      refine (reverse_any _ base g cap2 D hown (by omega)).mono ?_
      rintro e w3 ⟨rfl, hown3, hg3⟩
      have hrun := run_str w3 base g cap2 D.reverse (by rw [List.length_reverse]; exact hown3)
      rw [List.length_reverse] at hrun
      have HT : Hid (textOf z = D.reverse) := hid (by rw [HZ.out, text_pos HVL.out, HD.out])
      have hb3 : Below w.heap.size w w3 := hbw.grown hg3 hbw.size (by intro k e; simp at e; omega)
      clear hown hown3 hg3
      go_wp2
      go_ret
      exact ⟨by rw [HT.out]; rfl, hb3⟩
    · go_wp2_with (first
        | (at_builtin; go_must (refine wpList_append_own _ rfl _ _ 48 rfl base 5 i0 (.int .u8 0) 1 1 Try.underlying48 hi hz0 hz1 hz2 rfl (by decide) _ _ _ rfl (hown.alloc _) ⟨w2.heap.size, 0, none⟩ 1 1 [.int .u8 45] rfl rfl ?_ ?_ ?_ ?_ ?_ ?_))
        | fail)
      · intro q u hq
        match q, hq with
        | 0, hq => simp at hq; subst hq; simp [Addr.add]
      · intro u hu; simp at hu; subst hu; rfl
      · unfold maxLen; omega
      · omega
      · have := (hown.lt g rfl); simp; omega
      · intro v' w5 hown5 hgrow _
        have e1 : Bs D ++ [.int .u8 45] = Bs (D ++ [45]) := by simp [Bs]
        rw [e1] at hown5
        obtain ⟨ao5, cap5, rfl, _⟩ := ownB_shape hown5
        obtain ⟨g5, rfl, hg5⟩ := ownB_some hown5 (by omega)
        have hb5 : Below w.heap.size w w5 := (hbw.alloc hbw.size _).grown hgrow (by simp; have := hbw.size; omega) (fun q e => by simp [Value.ownBlock] at e; omega)
        have el : D.length + 1 = (D ++ [45]).length := by simp
        rw [el] at hown5
        have HE := hid el
        clear hown hgrow el
        go_wp2_with fail
        rw [HE.out]
        refine (reverse_any _ base g5 cap5 (D ++ [45]) hown5 (by simp; omega)).mono ?_
        rintro e w3 ⟨rfl, hown3, hg3⟩
        have hrun := run_str w3 base g5 cap5 (D ++ [45]).reverse (by rw [List.length_reverse]; exact hown3)
        rw [List.length_reverse, ← HE.out] at hrun
        have HT : Hid (textOf z = 45 :: D.reverse) := hid (by rw [HZ.out, text_neg HVL.out, HD.out]; simp)
        have hb3 : Below w.heap.size w w3 := hb5.grown hg3 hb5.size (by intro k e; simp at e; omega)
        clear hown5 hown3 hg3
        rw [← HE.out]
        go_wp2
        go_ret
        exact ⟨by rw [HT.out]; rfl, hb3⟩

end Go.Proofs.Ytalblhcfkfockaa
