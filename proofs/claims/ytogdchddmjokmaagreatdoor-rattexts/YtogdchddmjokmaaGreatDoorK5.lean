/-
  Walks: the whole number of a text.
-/
import Derived.Test.YtogdchddmjokmaaGreatDoorK4
namespace Go.Proofs.YtogdchddmjokmaaGreatDoor
open Go.RowKit Lm
set_option linter.unusedSimpArgs false
set_option linter.unusedVariables false
set_option maxRecDepth 100000

theorem text_bool (X : Int) (s : ByteArray) : ((str (textOf X)).toList == s.toList) = decide (textOf X = lst s) := by
  by_cases h : textOf X = lst s
  · rw [decide_eq_true h]
    have h2 : str (textOf X) = s := lst_inj (by rw [lst_text]; exact h)
    rw [h2]; simp
  · rw [decide_eq_false h]
    have h2 : ¬ (str (textOf X)).toList = s.toList := by
      intro e
      apply h
      rw [← lst_text X, lst, lst, e]
    simpa using h2

/-- What the text counts as, by its pieces. -/
def wholeV (s : ByteArray) : Int :=
  if isNeg (lst s) then -foldV 0 (cutsN (cutV s) ((cutV s).size % 18) ((cutV s).size / 18)) else foldV 0 (cutsN (cutV s) ((cutV s).size % 18) ((cutV s).size / 18))
theorem wholeV_of (s : ByteArray) (Y : Int) (h : textOf Y = lst s) : wholeV s = Y := by
  obtain ⟨h1, h2⟩ := text_read Y
  rw [h] at h1 h2
  have hd : dig (lst (cutV s)) := by rw [lst_cut]; exact h1.1.2.1
  have hc := cuts_val (cutV s) ((cutV s).size % 18) ((cutV s).size / 18) (by omega) (by omega) hd
  rw [List.take_of_length_le (by rw [lst_length]; omega), lst_cut] at hc
  unfold wholeV
  rw [hc, ← h2, readV]
  cases isNeg (lst s) <;> simp [sgn]

/-- The number has been told, and whether the text is just its text. -/
def WholeP (w : World) (s : ByteArray) (e : Ending) (w' : World) : Prop :=
  ∃ neg ao k cap, e = .returned (.tuple #[.agg #[.bool neg, .slice ao k cap], .bool (decide (textOf (wholeV s) = lst s))]) ∧ Arg w' (.agg #[.bool neg, .slice ao k cap]) 10000 (wholeV s) ∧ Below w.heap.size w w'

set_option maxHeartbeats 1600000 in
theorem whole_any (w : World) (s : ByteArray) (hs : s.size ≤ 20000) (hE : ES w) : Calls Tryz.prog 17 #[.string s] w (WholeP w s) := by
  have HE := hid hE
  have hds := cut_size s
  obtain ⟨d, hd⟩ : ∃ d, d = cutV s := ⟨_, rfl⟩
  obtain ⟨L, hL⟩ : ∃ L, L = cutsN d (d.size % 18) (d.size / 18) := ⟨_, rfl⟩
  have HLn := hid (show L.length ≤ 2000 by rw [hL, cutsN_len, hd]; omega)
  have HL0 := hid (show 0 < L.length by rw [hL, cutsN_len]; omega)
  have HLs := hid (show ∀ t ∈ L, t.size ≤ 18 by rw [hL]; exact cutsN_size d _ _ (by omega) (by omega))
  have HP : Hid (∀ W : World, Calls Tryz.prog 34 #[.string d] W (PiecePost W L)) := hid (fun W => by rw [hL]; exact pieces_any W d (by rw [hd]; omega))
  have HC : Hid (∀ W : World, Calls Tryz.prog 32 #[.string s, .string ⟨#[45]⟩] W fun e w' => e = .returned (.tuple #[.string d, .bool (isNeg (lst s))]) ∧ w' = W) := hid (fun W => by rw [hd]; exact cutPrefix_any W s (by omega))
  have HV : Hid (wholeV s = if isNeg (lst s) then -foldV 0 L else foldV 0 L) := hid (by rw [hL, hd]; rfl)
  clear hE hds hd hL
  obtain ⟨X, hX⟩ : ∃ X, X = foldV 0 L := ⟨_, rfl⟩
  go_enter Tryz.func17, Tryz.ntmps17
  go_wp2_with fail
  have hW0 : Below w.heap.size w (w.alloc (.cells #[.bool false, .slice none 0 0] 24)) := (by repeat (first | exact Below.refl _ _ | refine Below.alloc ?_ ?_ _ | refine Below.setCell ?_ ?_ _ | refine Below.drew ?_ | refine below_drewN ?_ _ | (· simp) | omega | (· simp; omega) | exact Below.size (by assumption) | assumption | refine below_call ?_ (by assumption) ?_))
  have bR : Box (w.alloc (.cells #[.bool false, .slice none 0 0] 24)) w.heap.size (.bool false) (.slice none 0 0) := Box.new _ _ _ _ rfl
  generalize w.alloc (.cells #[.bool false, .slice none 0 0] 24) = W0 at *
  refine (HC.out _).mono ?_
  rintro e w1 ⟨rfl, rfl⟩
  go_wp2_with fail
  refine (HP.out _).mono ?_
  rintro e w2 ⟨v, rfl, hO, hb2⟩
  obtain ⟨g, cap, rfl, hcap, hcm, -, hg, hcell⟩ := hO.shape HL0.out
  have hW2 := below_call hW0 hb2 hW0.size
  have bR2 := bR.keep hb2
  have HG := hid hcell
  have HcA := hid hcap
  have HcM := hid hcm
  clear bR hO hb2 hcell hcap hcm hW0
  go_wp2_with fail
  refine (foldI_any w2 g cap L _ 0 0 (is_zero w2).arg (by omega) hg HG.out HLs.out _ rfl HLn.out HcA.out HcM.out (HE.out.below hW2)).mono ?_
  rintro e w3 ⟨n1, a1, k1, c1, rfl, hA, hb3⟩
  rw [← hX] at hA
  have hW3 := below_call hW2 hb3 hW2.size
  have bR3 := bR2.keep hb3
  have HA := hid (hA.mono (show 0 + 5 * L.length ≤ 10000 by have := HLn.out; omega))
  clear bR2 hA hb3 hW2 HG HcA HcM hg HLn HL0 HLs HP HC HE
  obtain ⟨z0, z1⟩ := keepB bR3 (Below.refl _ _)
  have zf := bR3.f
  have zl := bR3.lt
  cases hneg : isNeg (lst s)
  · have HWV := hid (show wholeV s = X by rw [HV.out, hneg, hX]; rfl)
    clear HV hneg hX
    go_wp2_with fail
    have hst : Below w3.heap.size w3 (w3.alloc (.cells #[.bool n1, .slice a1 k1 c1] 24)) := (Below.refl _ _).alloc (Nat.le_refl _) _
    have hA4 := HA.out.below hst
    rw [← HWV.out] at hA4
    have hne : w3.heap.size ≠ w.heap.size := by omega
    have hW4 := below_call hW3 hst hW3.size
    have bR4 := bR3.keep hst
    have bS : Box (w3.alloc (.cells #[.bool n1, .slice a1 k1 c1] 24)) w3.heap.size (.bool n1) (.slice a1 k1 c1) := Box.new _ _ _ _ rfl
    clear hst bR3 z0 z1 zf zl HA
    generalize w3.alloc (.cells #[.bool n1, .slice a1 k1 c1] 24) = W4 at *
    (have E : RE W4 W4.drew [(.agg #[.bool n1, .slice a1 k1 c1], 10000, wholeV s)] [] [] [] := ((RE.none W4).know hA4).drew; clear hA4; obtain ⟨z0, z1⟩ := keepB bR4 (Below.refl _ _); have zf := bR4.f; have zl := bR4.lt; go_region_held3 (fun W' => W'.cell? ⟨w3.heap.size, 0, none⟩ = some (.bool n1) ∧ W'.cell? ⟨w3.heap.size, 1, none⟩ = some (.slice a1 k1 c1)) (first | exact keepB bS E.bl | exact keepB ((bS.keep E.bl).beside2 hne _ _) (Below.refl _ _)) (first | (go_at_call 22; go_must (refine (re_text E (by repeat (first | exact List.Mem.head _ | refine List.Mem.tail _ ?_)) (by omega)).mono ?_); rintro e wn ⟨rfl, En⟩; clear E; have E := En; clear En; (try clear z0 z1 zf zl); obtain ⟨z0, z1⟩ := keepB bR4 E.bl; have zf := (bR4.keep E.bl).f; have zl := (bR4.keep E.bl).lt)))
    have E2 := E.refill2 (bR4.keep E.bl) (.bool n1) (.slice a1 k1 c1)
    have EA := hid (E2.a _ (List.Mem.head _))
    have EB : Hid (Below w.heap.size w (fill2 wn w.heap.size (.bool n1) (.slice a1 k1 c1))) := hid (below_fill2 (below_call hW4 E.bl hW4.size) (by omega) _ _)
    clear E E2
    go_wp2
    refine bodyPost_ret (v := .tuple #[.agg #[.bool n1, .slice a1 k1 c1], .bool ((str (textOf (wholeV s))).toList == s.toList)]) ?_ rfl ⟨n1, a1, k1, c1, by rw [text_bool], EA.out.mono (by omega), EB.out⟩
    simp [results, Tryz.results17, go_sem, z0, z1]
  · have HWV := hid (show wholeV s = -X by rw [HV.out, hneg, hX]; rfl)
    clear HV hneg hX
    go_wp2_with fail
    have hst : Below w3.heap.size w3 (w3.alloc (.cells #[.bool n1, .slice a1 k1 c1] 24)) := (Below.refl _ _).alloc (Nat.le_refl _) _
    have hA4 := HA.out.below hst
    have hne : w3.heap.size ≠ w.heap.size := by omega
    have hle : w.heap.size ≤ w3.heap.size := hW3.size
    have hW5 := below_call hW3 hst hW3.size
    have bR5 := bR3.keep hst
    have bS5 : Box (w3.alloc (.cells #[.bool n1, .slice a1 k1 c1] 24)) w3.heap.size (.bool n1) (.slice a1 k1 c1) := Box.new _ _ _ _ rfl
    clear hst bR3 z0 z1 zf zl HA
    generalize w3.alloc (.cells #[.bool n1, .slice a1 k1 c1] 24) = W5 at *
    refine (neg_num W5 _ 10000 X hA4 (by omega)).mono ?_
    rintro e w6 ⟨n2, a2, k2, c2, rfl, hI, hb6⟩
    have bS6 := bS5.keep hb6
    have bR6 := bR5.keep hb6
    have hW6 := below_call hW5 hb6 hW5.size
    have hA6 := arg_off2 hI.arg bS6 (.bool n2) (.slice a2 k2 c2)
    rw [← HWV.out] at hA6
    have HA6 := hid hA6
    have HS6 := hid (bS6.filled (.bool n2) (.slice a2 k2 c2))
    have HR6 := hid (bR6.beside2 (Ne.symm hne) (.bool n2) (.slice a2 k2 c2))
    have HW6 := hid (below_fill2 hW6 hle (.bool n2) (.slice a2 k2 c2))
    clear hA4 hW5 bR5 bS5 hI hb6 hA6
    obtain ⟨y0, y1⟩ := keepB bS6 (Below.refl _ _)
    have yf := bS6.f
    have yl := bS6.lt
    clear bS6 bR6
    go_wp2_with fail
    rw [fill2_eq]
    have hA4 := HA6.out
    have bS := HS6.out
    have bR4 := HR6.out
    have hW4 := HW6.out
    clear HA6 HS6 HR6 HW6 y0 y1 yf yl
    generalize fill2 w6 w3.heap.size (.bool n2) (.slice a2 k2 c2) = W4 at *
    (have E : RE W4 W4.drew [(.agg #[.bool n2, .slice a2 k2 c2], 10000, wholeV s)] [] [] [] := ((RE.none W4).know hA4).drew; clear hA4; obtain ⟨z0, z1⟩ := keepB bR4 (Below.refl _ _); have zf := bR4.f; have zl := bR4.lt; go_region_held3 (fun W' => W'.cell? ⟨w3.heap.size, 0, none⟩ = some (.bool n2) ∧ W'.cell? ⟨w3.heap.size, 1, none⟩ = some (.slice a2 k2 c2)) (first | exact keepB bS E.bl | exact keepB ((bS.keep E.bl).beside2 hne _ _) (Below.refl _ _)) (first | (go_at_call 22; go_must (refine (re_text E (by repeat (first | exact List.Mem.head _ | refine List.Mem.tail _ ?_)) (by omega)).mono ?_); rintro e wn ⟨rfl, En⟩; clear E; have E := En; clear En; (try clear z0 z1 zf zl); obtain ⟨z0, z1⟩ := keepB bR4 E.bl; have zf := (bR4.keep E.bl).f; have zl := (bR4.keep E.bl).lt)))
    have E2 := E.refill2 (bR4.keep E.bl) (.bool n2) (.slice a2 k2 c2)
    have EA := hid (E2.a _ (List.Mem.head _))
    have EB : Hid (Below w.heap.size w (fill2 wn w.heap.size (.bool n2) (.slice a2 k2 c2))) := hid (below_fill2 (below_call hW4 E.bl hW4.size) (by omega) _ _)
    clear E E2
    go_wp2
    refine bodyPost_ret (v := .tuple #[.agg #[.bool n2, .slice a2 k2 c2], .bool ((str (textOf (wholeV s))).toList == s.toList)]) ?_ rfl ⟨n2, a2, k2, c2, by rw [text_bool], EA.out.mono (by omega), EB.out⟩
    simp [results, Tryz.results17, go_sem, z0, z1]

end Go.Proofs.YtogdchddmjokmaaGreatDoor
