/-
  Walks: Add.
  Walks: Sub.
  Walks: Floor.
  Walks: Text of a quotient.
  Walks: how great quotients are; what a law of quotients knows from call to call.
  Walks: whether two quotients are one, limb by limb; the document's example.
  How great one, two, three quotients are; what the laws of quotients rest on.
-/
import Derived.Test.YtogdchddmjokmaaGreatDoorRA
import Derived.Test.YtogdchddmjokmaaGreatDoorRB

namespace Go.Proofs.YtogdchddmjokmaaGreatDoor
open Go.RowKit Lm
set_option linter.unusedSimpArgs false
set_option linter.unusedVariables false
set_option maxRecDepth 100000

end Go.Proofs.YtogdchddmjokmaaGreatDoor

namespace Go.Proofs.YtogdchddmjokmaaGreatDoor
open Go.RowKit Lm
set_option linter.unusedSimpArgs false
set_option linter.unusedVariables false
set_option maxRecDepth 100000

end Go.Proofs.YtogdchddmjokmaaGreatDoor

namespace Go.Proofs.YtogdchddmjokmaaGreatDoor
open Go.RowKit Lm
set_option linter.unusedSimpArgs false
set_option linter.unusedVariables false
set_option maxRecDepth 100000

theorem Is.off2 {W : World} {lo n g k c : Nat} {v : Value} {x : Int} {a : Option Addr} {b b' : Bool} (h : Is W lo v n x) (hg : Box W g (.bool b) (.slice a k c)) (z : Value) : Is ((W.setCell ⟨g, 0, none⟩ (.bool b')).setCell ⟨g, 1, none⟩ z) lo v n x := by
  obtain ⟨neg, ao, cap, l, e, hs, hr⟩ := h
  exact ⟨neg, ao, cap, l, e, (hs.offBox hg _).offBox (hg.set0 _) _, hr⟩
theorem den_ne (r : Rat) : (r.den : Int) ≠ 0 := by have := r.den_pos; omega

set_option maxHeartbeats 3200000 in
theorem ratFloor_any (w : World) (u : Value) (n : Nat) (r : Rat) (hu : RArg w u n r) (hn : n ≤ 40000) :
    Calls Tryz.prog 15 #[u] w (Told 0 (n + 5) r.floor w) := by
  have HX := hid hu
  obtain ⟨n1, a1, k1, c1, n2, a2, k2, c2, rfl⟩ := hu.shape
  clear hu
  go_enter Tryz.func15, Tryz.ntmps15
  go_wp2_with fail
  have hW0 : Below w.heap.size w ((w.alloc (.cells #[.bool n1, .slice a1 k1 c1, .bool n2, .slice a2 k2 c2] 26)).alloc (.cells #[.bool false, .slice none 0 0] 24)) := (by repeat (first | exact Below.refl _ _ | refine Below.alloc ?_ ?_ _ | refine Below.setCell ?_ ?_ _ | refine Below.drew ?_ | refine below_drewN ?_ _ | (· simp) | omega | (· simp; omega) | exact Below.size (by assumption) | assumption | refine below_call ?_ (by assumption) ?_))
  have bA : Box4 ((w.alloc (.cells #[.bool n1, .slice a1 k1 c1, .bool n2, .slice a2 k2 c2] 26)).alloc (.cells #[.bool false, .slice none 0 0] 24)) w.heap.size (.bool n1) (.slice a1 k1 c1) (.bool n2) (.slice a2 k2 c2) := (Box4.new _ _ _ _ _ _ rfl).alloc _
  have bR : Box ((w.alloc (.cells #[.bool n1, .slice a1 k1 c1, .bool n2, .slice a2 k2 c2] 26)).alloc (.cells #[.bool false, .slice none 0 0] 24)) (w.heap.size + 1) (.bool false) (.slice none 0 0) := Box.new _ _ _ _ (by simp)
  generalize (w.alloc (.cells #[.bool n1, .slice a1 k1 c1, .bool n2, .slice a2 k2 c2] 26)).alloc (.cells #[.bool false, .slice none 0 0] 24) = W0 at *
  refine (ratCounted_any _ _ n r (HX.out.below hW0) (by omega)).mono ?_
  rintro e w1 ⟨m1, p1, j1, d1, m2, p2, j2, d2, rfl, C1, C2, hb1⟩
  have hW1 := below_call hW0 hb1 hW0.size
  have E0 : RE w1 w1 [(.agg #[.bool m1, .slice p1 j1 d1], n + 2, r.num), (.agg #[.bool m2, .slice p2 j2 d2], n + 2, (r.den : Int))] [] [] [] := ((RE.none w1).know C2).know C1
  replace bA := bA.keep hb1
  replace bR := bR.keep hb1
  have E := hid (E0.refill bA (.bool m1) (.slice p1 j1 d1) (.bool m2) (.slice p2 j2 d2))
  have hW2 := below_fill4 hW1 (show w.heap.size ≤ w.heap.size by omega) (.bool m1) (.slice p1 j1 d1) (.bool m2) (.slice p2 j2 d2)
  have bR2 := hid (bR.beside4 (show w.heap.size + 1 ≠ w.heap.size by omega) (.bool m1) (.slice p1 j1 d1) (.bool m2) (.slice p2 j2 d2))
  obtain ⟨y0, y1, y2, y3⟩ := bA.c
  have yf := bA.f
  have lA := bA.lt
  clear C1 C2 E0 hW1 hW0 hb1 HX bR
  go_wp2_with fail
  clear y0 y1 y2 y3 yf lA bA
  rw [fill4_eq]
  have hW3 := hid hW2
  clear hW2
  generalize fill4 w1 w.heap.size (.bool m1) (.slice p1 j1 d1) (.bool m2) (.slice p2 j2 d2) = W1 at *
  refine (div_any _ _ _ (n + 2) (n + 2) r.num r.den (E.out.a _ (.head _)) (E.out.a _ (.tail _ (.head _))) (den_ne r) (by omega) (by omega)).mono ?_
  rintro e w2 ⟨nq, aq, kq, cq, nr, ar, kr, cr, rfl, Iq, Ir, hb2⟩
  have hW4 := below_call hW3.out hb2 hW3.out.size
  have bR3 := (bR2.out.keep hb2)
  have lR3 := bR3.lt
  have hst : Below w2.heap.size w2 ((w2.alloc (.cells #[.bool nq, .slice aq kq cq] 24)).alloc (.cells #[.bool nr, .slice ar kr cr] 24)) := ((Below.refl _ _).alloc (Nat.le_refl _) _).alloc (by simp) _
  have JQ := hid (Iq.below hst)
  have JR := hid (Ir.below hst)
  have bQ : Box ((w2.alloc (.cells #[.bool nq, .slice aq kq cq] 24)).alloc (.cells #[.bool nr, .slice ar kr cr] 24)) w2.heap.size (.bool nq) (.slice aq kq cq) := (Box.new _ _ _ _ rfl).alloc _
  have bR4 := bR3.keep hst
  have hW5 := below_call hW4 hst hW4.size
  clear hb2 Iq Ir hW4 hW3 bR2 E bR3 hst
  go_wp2_with fail
  generalize ((w2.alloc (.cells #[.bool nq, .slice aq kq cq] 24)).alloc (.cells #[.bool nr, .slice ar kr cr] 24)) = W2 at *
  refine (sign_any _ _ _ _ JR.out.arg).mono ?_
  rintro e w3 ⟨rfl, hb3⟩
  have hW6 := below_call hW5 hb3 hW5.size
  replace bQ := bQ.keep hb3
  have bR5 := bR4.keep hb3
  have KQ := hid (JQ.out.below hb3)
  clear hb3 JQ JR bR4 hW5
  by_cases hneg : r.num.tmod r.den < 0
  · rw [cmpI_lt hneg]
    have HF : Hid (r.floor = r.num.tdiv r.den - 1) := hid (by rw [floor_rat, if_pos hneg])
    clear hneg
    have q0 := bQ.c0
    have q1 := bQ.c1
    go_wp2_with fail
    clear q0 q1
    have E : RE w3 w3.drew [(.agg #[.bool nq, .slice aq kq cq], n + 2, r.num.tdiv r.den)] [] [] [] := ((RE.none w3).know KQ.out.arg).drew
    go_region_held3 (fun W' => W'.cell? ⟨w2.heap.size, 0, none⟩ = some (.bool nq) ∧ W'.cell? ⟨w2.heap.size, 1, none⟩ = some (.slice aq kq cq)) (first | exact ⟨(bQ.keep E.bl).c0, (bQ.keep E.bl).c1⟩ | exact ⟨(((bQ.keep E.bl).other (by show w2.heap.size ≠ w.heap.size + 1; omega) _).other (by show w2.heap.size ≠ w.heap.size + 1; omega) _).c0, (((bQ.keep E.bl).other (by show w2.heap.size ≠ w.heap.size + 1; omega) _).other (by show w2.heap.size ≠ w.heap.size + 1; omega) _).c1⟩) (first
      | (go_at_call 30; go_must (refine (re_of E _ (by omega) (by omega)).mono ?_); rintro e wn ⟨n5, a5, k5, c5, rfl, En⟩; clear E; have E := En; clear En)
      | (go_at_call 29; go_must (refine (re_sub E (by repeat (first | exact List.Mem.head _ | refine List.Mem.tail _ ?_)) (by repeat (first | exact List.Mem.head _ | refine List.Mem.tail _ ?_)) (by omega) (by omega)).mono ?_); rintro e wn ⟨n6, a6, k6, c6, rfl, En⟩; clear E; have E := En; clear En; have z0 := (bR5.keep E.bl).c0; have z1 := (bR5.keep E.bl).c1; have zf := (bR5.keep E.bl).f; have zl := (bR5.keep E.bl).lt))
    have HI := hid ((E.i _ (List.Mem.head _)).off2 (b' := n6) (bR5.keep E.bl) (.slice a6 k6 c6))
    have hWn := below_call hW6 E.bl hW6.size
    have HW : Hid (Below w.heap.size w ((wn.setCell ⟨w.heap.size + 1, 0, none⟩ (.bool n6)).setCell ⟨w.heap.size + 1, 1, none⟩ (.slice a6 k6 c6))) := hid ((hWn.setCell (by show w.heap.size ≤ w.heap.size + 1; omega) _).setCell (by show w.heap.size ≤ w.heap.size + 1; omega) _)
    clear E bQ bR5 hWn
    go_wp2
    refine bodyPost_ret (v := .agg #[.bool n6, .slice a6 k6 c6]) ?_ rfl ⟨n6, a6, k6, c6, rfl, ?_, HW.out⟩
    · simp [results, Tryz.results15, go_sem, z0, z1]
    · rw [HF.out]
      exact HI.out.mono (Nat.le_refl _) (by omega)
  · have hcm : ¬ cmpI (r.num.tmod r.den) 0 < 0 := by
      unfold cmpI
      rw [if_neg hneg]
      split <;> omega
    have HF : Hid (r.floor = r.num.tdiv r.den) := hid (by rw [floor_rat, if_neg hneg])
    clear hneg
    have q0 := bQ.c0
    have q1 := bQ.c1
    have qL := bQ.lt
    have z0 := bR5.c0
    have z1 := bR5.c1
    have zf := bR5.f
    have zl := bR5.lt
    have HI := hid (KQ.out.off2 (b' := nq) bR5 (.slice aq kq cq))
    have HW : Hid (Below w.heap.size w ((w3.setCell ⟨w.heap.size + 1, 0, none⟩ (.bool nq)).setCell ⟨w.heap.size + 1, 1, none⟩ (.slice aq kq cq))) := hid ((hW6.setCell (by show w.heap.size ≤ w.heap.size + 1; omega) _).setCell (by show w.heap.size ≤ w.heap.size + 1; omega) _)
    clear bQ bR5
    go_wp2
    refine bodyPost_ret (v := .agg #[.bool nq, .slice aq kq cq]) ?_ rfl ⟨nq, aq, kq, cq, rfl, ?_, HW.out⟩
    · simp [results, Tryz.results15, go_sem, z0, z1]
    · rw [HF.out]
      exact HI.out.mono (Nat.zero_le _) (by omega)

end Go.Proofs.YtogdchddmjokmaaGreatDoor

namespace Go.Proofs.YtogdchddmjokmaaGreatDoor
open Go.RowKit Lm
set_option linter.unusedSimpArgs false
set_option linter.unusedVariables false
set_option maxRecDepth 100000

theorem ret_text {a b : ByteArray} (h : a = b) : Ending.returned (.string a) = .returned (.string b) := by rw [h]
/-- What a quotient is told as. -/
def textR (r : Rat) : ByteArray := if (r.den : Int) = 1 then str (textOf r.num) else str (textOf r.num) ++ ⟨#[47]⟩ ++ str (textOf r.den)
theorem text_bound {W : World} {v : Value} {n : Nat} {x : Int} (h : Arg W v n x) (hn : n ≤ 40000) : (str (textOf x)).size ≤ 500000 := by
  have h3 := arg_abs h
  have h4 := text_len h3
  rw [str_size]
  omega

set_option maxHeartbeats 3200000 in
theorem ratText_any (w : World) (u : Value) (n : Nat) (r : Rat) (hu : RArg w u n r) (hn : n ≤ 30000) :
    Calls Tryz.prog 8 #[u] w fun e w' => e = .returned (.string (textR r)) ∧ Below w.heap.size w w' := by
  have HX := hid hu
  obtain ⟨n1, a1, k1, c1, n2, a2, k2, c2, rfl⟩ := hu.shape
  clear hu
  go_enter Tryz.func8, Tryz.ntmps8
  go_wp2_with fail
  have hW0 : Below w.heap.size w (w.alloc (.cells #[.bool n1, .slice a1 k1 c1, .bool n2, .slice a2 k2 c2] 26)) := (by repeat (first | exact Below.refl _ _ | refine Below.alloc ?_ ?_ _ | refine Below.setCell ?_ ?_ _ | refine Below.drew ?_ | refine below_drewN ?_ _ | (· simp) | omega | (· simp; omega) | exact Below.size (by assumption) | assumption | refine below_call ?_ (by assumption) ?_))
  have bA : Box4 (w.alloc (.cells #[.bool n1, .slice a1 k1 c1, .bool n2, .slice a2 k2 c2] 26)) w.heap.size (.bool n1) (.slice a1 k1 c1) (.bool n2) (.slice a2 k2 c2) := Box4.new _ _ _ _ _ _ rfl
  generalize (w.alloc (.cells #[.bool n1, .slice a1 k1 c1, .bool n2, .slice a2 k2 c2] 26)) = W0 at *
  refine (ratCounted_any _ _ n r (HX.out.below hW0) (by omega)).mono ?_
  rintro e w1 ⟨m1, p1, j1, d1, m2, p2, j2, d2, rfl, C1, C2, hb1⟩
  have hW1 := below_call hW0 hb1 hW0.size
  have E0 : RE w1 w1 [(.agg #[.bool m1, .slice p1 j1 d1], n + 2, r.num), (.agg #[.bool m2, .slice p2 j2 d2], n + 2, (r.den : Int))] [] [] [] := ((RE.none w1).know C2).know C1
  replace bA := bA.keep hb1
  have E := hid (E0.refill bA (.bool m1) (.slice p1 j1 d1) (.bool m2) (.slice p2 j2 d2))
  have hW2 := hid (below_fill4 hW1 (show w.heap.size ≤ w.heap.size by omega) (.bool m1) (.slice p1 j1 d1) (.bool m2) (.slice p2 j2 d2))
  have bA2 := hid (bA.filled (.bool m1) (.slice p1 j1 d1) (.bool m2) (.slice p2 j2 d2))
  have hs1 := text_bound C1 (by omega)
  have hs2 := text_bound C2 (by omega)
  have HS1 := hid hs1
  have HS2 := hid hs2
  obtain ⟨y0, y1, y2, y3⟩ := bA.c
  have yf := bA.f
  have lA := bA.lt
  clear C1 C2 E0 hW1 hW0 hb1 HX hs1 hs2
  go_wp2_with fail
  clear y0 y1 y2 y3 yf lA bA
  rw [fill4_eq]
  generalize fill4 w1 w.heap.size (.bool m1) (.slice p1 j1 d1) (.bool m2) (.slice p2 j2 d2) = W1 at *
  refine (isOne_any _ _ _ _ (E.out.a _ (.tail _ (.head _)))).mono ?_
  rintro e w2 ⟨rfl, hb2⟩
  have hW3 := below_call hW2.out hb2 hW2.out.size
  have bA3 := bA2.out.keep hb2
  have E3 := E.out.step hb2
  clear hb2 hW2 bA2 E
  replace E3 := E3.rebase
  obtain ⟨y0, y1, y2, y3⟩ := bA3.c
  by_cases h1 : (r.den : Int) = 1
  · rw [decide_eq_true h1]
    have HT : Hid (textR r = str (textOf r.num)) := hid (by unfold textR; rw [if_pos h1])
    clear h1
    go_wp2_with fail
    refine (re_text E3 (List.Mem.head _) (by omega)).mono ?_
    rintro e w4 ⟨rfl, E4⟩
    have HB := hid (below_call hW3 E4.bl hW3.size)
    clear E3 E4 bA3 y0 y1 y2 y3
    go_wp2
    go_ret
    exact ⟨ret_text HT.out.symm, HB.out⟩
  · rw [decide_eq_false h1]
    have HT : Hid (textR r = str (textOf r.num) ++ ⟨#[47]⟩ ++ str (textOf r.den)) := hid (by unfold textR; rw [if_neg h1])
    clear h1
    replace E3 := E3.drew
    have hs1 : ¬ 9223372036854775807 < (str (textOf r.num)).size + 1 := by have := HS1.out; omega
    have hs2 : ¬ 9223372036854775807 < (str (textOf r.num)).size + 1 + (str (textOf (r.den : Int))).size := by have := HS1.out; have := HS2.out; omega
    go_wp2_with fail
    clear y0 y1 y2 y3
    go_region_held3 (fun W' => W'.cell? ⟨w.heap.size, 0, none⟩ = some (.bool m1) ∧ W'.cell? ⟨w.heap.size, 1, none⟩ = some (.slice p1 j1 d1) ∧ W'.cell? ⟨w.heap.size, 2, none⟩ = some (.bool m2) ∧ W'.cell? ⟨w.heap.size, 3, none⟩ = some (.slice p2 j2 d2)) (exact (bA3.keep E3.bl).c) (first
      | (go_at_call 22; go_must (refine (re_text E3 (by repeat (first | exact List.Mem.head _ | refine List.Mem.tail _ ?_)) (by omega)).mono ?_); rintro e wn ⟨rfl, En⟩; clear E3; have E3 := En; clear En))
    have HB := hid (below_call hW3 E3.bl hW3.size)
    clear E3 bA3
    go_wp2
    go_ret
    exact ⟨ret_text HT.out.symm, HB.out⟩

end Go.Proofs.YtogdchddmjokmaaGreatDoor

namespace Go.Proofs.YtogdchddmjokmaaGreatDoor
open Go.RowKit Lm
set_option linter.unusedSimpArgs false
set_option linter.unusedVariables false
set_option maxRecDepth 100000

def greatR (L : List (Nat × Nat)) : Bool := L.any (fun p => decide (6 < p.1) || decide (6 < p.2))
theorem greatR_yes {L : List (Nat × Nat)} {k : Nat} (h : k < L.length) (h1 : 6 < L[k].1 ∨ 6 < L[k].2) : greatR L = true := by
  unfold greatR
  rw [List.any_eq_true]
  exact ⟨L[k], List.getElem_mem h, by simpa using h1⟩
theorem greatR_no {L : List (Nat × Nat)} (h : ∀ j (hj : j < L.length), L[j].1 ≤ 6 ∧ L[j].2 ≤ 6) : greatR L = false := by
  unfold greatR
  rw [List.any_eq_false]
  intro x hx
  obtain ⟨j, hj, rfl⟩ := List.getElem_of_mem hx
  have := h j hj
  simp
  omega

set_option maxHeartbeats 800000 in
theorem great2_any (w : World) (b cap : Nat) (L : List (Nat × Nat)) (hL : L.length ≤ 100) (hm : ∀ i (h : i < L.length), L[i].1 ≤ 9223372036854775807 ∧ L[i].2 ≤ 9223372036854775807)
    (hc : ∀ i (h : i < L.length), ∃ a1 c1 a2 c2, w.cell? ⟨b, i * 4 + 1, none⟩ = some (.slice a1 L[i].1 c1) ∧ w.cell? ⟨b, i * 4 + 3, none⟩ = some (.slice a2 L[i].2 c2)) :
    Calls Tryz.prog 4 #[.slice (some ⟨b, 0, none⟩) L.length cap] w fun e w' => e = .returned (.bool (greatR L)) ∧ w' = w := by
  go_enter Tryz.func4, Tryz.ntmps4
  go_wp2
  go_loop [3] (fun i => ∃ k : Nat, k ≤ L.length ∧ i = .int .i64 k ∧ ∀ j (hj : j < L.length), j < k → L[j].1 ≤ 6 ∧ L[j].2 ≤ 6) (fun i => L.length - (intOf i).toNat)
  case atStart => exact ⟨0, Nat.zero_le _, rfl, fun j hj hk => by omega⟩
  case round =>
    obtain ⟨k, hk, rfl, hall⟩ := hrel
    have HA := hid hall
    clear hall
    by_cases hlt : k < L.length
    · obtain ⟨a1, c1, a2, c2, hc1, hc2⟩ := hc k hlt
      obtain ⟨hm1, hm2⟩ := hm k hlt
      have HY := hid (greatR_yes hlt)
      obtain ⟨p, hp⟩ : ∃ p, p = L[k] := ⟨_, rfl⟩
      have HP := hid hp
      rw [← hp] at hc1 hc2 hm1 hm2
      rw [← hp] at HY
      clear hp
      by_cases h1 : 6 < p.1
      · have hi1 : (6 : Int) < (p.1 : Int) := by omega
        go_wp2
        go_ret
        exact ⟨ret_bool (HY.out (.inl h1)).symm, rfl⟩
      · have hi1 : ¬ (6 : Int) < (p.1 : Int) := by omega
        by_cases h2 : 6 < p.2
        · have hi2 : (6 : Int) < (p.2 : Int) := by omega
          go_wp2
          go_ret
          exact ⟨ret_bool (HY.out (.inr h2)).symm, rfl⟩
        · have hi2 : ¬ (6 : Int) < (p.2 : Int) := by omega
          go_wp2
          go_round
          case rel =>
            refine ⟨k + 1, by omega, by go_num, fun j hj hjk => ?_⟩
            by_cases hjk2 : j = k
            · subst hjk2
              rw [← HP.out]
              omega
            · exact HA.out j hj (by omega)
          case measure => simp [intOf]; omega
    · go_wp2
      go_ret
      exact ⟨ret_bool (greatR_no (fun j hj => HA.out j hj (by omega))).symm, rfl⟩

variable {U W W' : World} {KA KI : List (Value × Nat × Int)} {KR KS : List (Value × Nat × Rat)} {u v : Value} {n m : Nat} {x y : Int} {r t : Rat}
theorem re_floor (E : RE U W KA KI KR KS) (hu : (u, n, r) ∈ KR) (hn : n ≤ 40000) : Calls Tryz.prog 15 #[u] W (SaysN U KA KI KR KS (n + 5) r.floor) :=
  (ratFloor_any W u n r (E.r _ hu) hn).mono fun _ _ h => saysN_of E h
theorem re_rText (E : RE U W KA KI KR KS) (hu : (u, n, r) ∈ KR) (hn : n ≤ 30000) : Calls Tryz.prog 8 #[u] W fun e w' => e = .returned (.string (textR r)) ∧ RE U w' KA KI KR KS := by
  refine (ratText_any W u n r (E.r _ hu) hn).mono ?_
  rintro e w' ⟨rfl, hb⟩
  exact ⟨rfl, E.step hb⟩
theorem rarg_zero (W : World) : RArg W (.agg #[.bool false, .slice none 0 0, .bool false, .slice none 0 0]) 0 0 := by
  have h : SlAt W none 0 [] := ⟨ok_nil, by simp, by unfold maxLen; omega, .inl ⟨rfl, fun _ => rfl⟩⟩
  refine ⟨false, _, [], false, _, [], rfl, ⟨none, 0, rfl, h⟩, ⟨none, 0, rfl, h⟩, by simp, by simp, ?_⟩
  rw [ratMean_not]
  rintro ⟨_, _, h3, _⟩
  simp [sgn, val] at h3
theorem re_zeroR (E : RE U W KA KI KR KS) : RE U W KA KI ((.agg #[.bool false, .slice none 0 0, .bool false, .slice none 0 0], 0, 0) :: KR) KS := E.knowR (rarg_zero W)

end Go.Proofs.YtogdchddmjokmaaGreatDoor

namespace Go.Proofs.YtogdchddmjokmaaGreatDoor
open Go.RowKit Lm
set_option linter.unusedSimpArgs false
set_option linter.unusedVariables false
set_option maxRecDepth 100000

set_option maxHeartbeats 3200000 in
theorem sameRat_any (w : World) (u v : Value) (n m : Nat) (r t : Rat) (hu : RIs w 0 u n r) (hv : RIs w 0 v m t) :
    Calls Tryz.prog 10 #[u, v] w fun e w' => e = .returned (.bool (decide (r = t))) ∧ Below w.heap.size w w' := by
  obtain ⟨n1, a1, k1, c1, n2, a2, k2, c2, rfl, I1, I2⟩ := hu
  obtain ⟨n3, a3, k3, c3, n4, a4, k4, c4, rfl, I3, I4⟩ := hv
  have J1 := hid I1
  have J2 := hid I2
  have J3 := hid I3
  have J4 := hid I4
  clear I1 I2 I3 I4
  go_enter Tryz.func10, Tryz.ntmps10
  go_wp2_with fail
  have hW0 : Below w.heap.size w ((w.alloc (.cells #[.bool n1, .slice a1 k1 c1, .bool n2, .slice a2 k2 c2] 26)).alloc (.cells #[.bool n3, .slice a3 k3 c3, .bool n4, .slice a4 k4 c4] 26)) := (by repeat (first | exact Below.refl _ _ | refine Below.alloc ?_ ?_ _ | refine Below.setCell ?_ ?_ _ | refine Below.drew ?_ | refine below_drewN ?_ _ | (· simp) | omega | (· simp; omega) | exact Below.size (by assumption) | assumption | refine below_call ?_ (by assumption) ?_))
  have bA : Box4 ((w.alloc (.cells #[.bool n1, .slice a1 k1 c1, .bool n2, .slice a2 k2 c2] 26)).alloc (.cells #[.bool n3, .slice a3 k3 c3, .bool n4, .slice a4 k4 c4] 26)) w.heap.size (.bool n1) (.slice a1 k1 c1) (.bool n2) (.slice a2 k2 c2) := (Box4.new _ _ _ _ _ _ rfl).alloc _
  have bB : Box4 ((w.alloc (.cells #[.bool n1, .slice a1 k1 c1, .bool n2, .slice a2 k2 c2] 26)).alloc (.cells #[.bool n3, .slice a3 k3 c3, .bool n4, .slice a4 k4 c4] 26)) (w.heap.size + 1) (.bool n3) (.slice a3 k3 c3) (.bool n4) (.slice a4 k4 c4) := Box4.new _ _ _ _ _ _ (by simp)
  generalize ((w.alloc (.cells #[.bool n1, .slice a1 k1 c1, .bool n2, .slice a2 k2 c2] 26)).alloc (.cells #[.bool n3, .slice a3 k3 c3, .bool n4, .slice a4 k4 c4] 26)) = W0 at *
  refine (same_num _ _ _ n m 0 0 r.num t.num (J1.out.below hW0) (J3.out.below hW0)).mono ?_
  rintro e w1 ⟨rfl, hb1⟩
  have hW1 := below_call hW0 hb1 hW0.size
  obtain ⟨x0, x1, x2, x3, y0, y1, y2, y3⟩ := keep44 bA bB hb1
  have lA := (bA.keep hb1).lt
  have lB := (bB.keep hb1).lt
  clear hb1 bA bB hW0
  by_cases h1 : r.num = t.num
  · rw [decide_eq_true h1]
    have HE : Hid (decide (r = t) = decide ((r.den : Int) = t.den)) := hid (by
      by_cases h2 : (r.den : Int) = t.den
      · rw [decide_eq_true h2, decide_eq_true (Rat.ext h1 (by omega))]
      · rw [decide_eq_false h2, decide_eq_false (fun h => h2 (by rw [h]))])
    clear h1
    go_wp2_with fail
    refine (same_num _ _ _ n m 0 0 r.den t.den (J2.out.below hW1) (J4.out.below hW1)).mono ?_
    rintro e w2 ⟨rfl, hb2⟩
    have hW2 := below_call hW1 hb2 hW1.size
    clear hb2 x0 x1 x2 x3 y0 y1 y2 y3
    go_wp2
    go_ret
    exact ⟨ret_bool HE.out.symm, hW2⟩
  · rw [decide_eq_false h1]
    have HE : Hid (decide (r = t) = false) := hid (decide_eq_false (fun h => h1 (by rw [h])))
    clear h1
    go_wp2
    go_ret
    exact ⟨ret_bool HE.out.symm, hW1⟩

theorem r64_num : (Rat.divInt 6 (-4)).num = -3 := by rw [least_num _ _ (by omega)]; decide
theorem r64_den : ((Rat.divInt 6 (-4)).den : Int) = 2 := by rw [least_den _ _ (by omega)]; decide
theorem r64_floor : (Rat.divInt 6 (-4)).floor = -2 := by rw [floor_rat, r64_num, r64_den]; decide
theorem text_p2 : str (textOf 2) = ⟨#[50]⟩ := by
  have h : decs 2 = [50] := (decs_eq (l := [50]) (by intro c hc; simp at hc; omega) (by simp) (by simp [decv])).symm
  have e : textOf 2 = [50] := by
    unfold textOf
    rw [if_neg (by omega), if_neg (by omega), show (2 : Int).natAbs = 2 from rfl, h]
    rfl
  rw [e]; rfl
theorem r64_text : textR (Rat.divInt 6 (-4)) = ⟨#[45, 51, 47, 50]⟩ := by
  unfold textR
  rw [r64_num, r64_den, if_neg (by omega), text_m3, text_p2]
  rfl

set_option maxHeartbeats 3200000 in
theorem awake2_any (w : World) :
    Calls Tryz.prog 5 #[] w fun e w' => e = .returned (.bool true) ∧ Below w.heap.size w w' := by
  have E := RE.none w
  go_enter Tryz.func5, Tryz.ntmps5
  go_wp2_with fail
  refine (re_rof E 6 (by omega) (by omega)).mono ?_
  rintro e w1 ⟨n1, a1, k1, c1, rfl, E1⟩
  clear E
  go_wp2_with fail
  refine (re_rof E1 (-4) (by omega) (by omega)).mono ?_
  rintro e w2 ⟨n2, a2, k2, c2, rfl, E2⟩
  clear E1
  go_wp2_with fail
  refine (re_quo E2 (List.Mem.tail _ (List.Mem.head _)) (List.Mem.head _) (by omega) (by omega) (by omega)).mono ?_
  rintro e w3 ⟨n3, a3, k3, c3, n4, a4, k4, c4, rfl, E3⟩
  clear E2
  have b4 : Box4 (w3.alloc (.cells #[.bool n3, .slice a3 k3 c3, .bool n4, .slice a4 k4 c4] 26)) w3.heap.size (.bool n3) (.slice a3 k3 c3) (.bool n4) (.slice a4 k4 c4) := Box4.new _ _ _ _ _ _ rfl
  have E4 := E3.alloc (.cells #[.bool n3, .slice a3 k3 c3, .bool n4, .slice a4 k4 c4] 26)
  have hW := E4.bl
  replace E4 := E4.rebase
  clear E3
  go_wp2_with fail
  generalize w3.alloc (.cells #[.bool n3, .slice a3 k3 c3, .bool n4, .slice a4 k4 c4] 26) = W at *
  refine (re_num E4 0).mono ?_
  rintro e w5 ⟨rfl, E5⟩
  clear E4
  obtain ⟨x0, x1, x2, x3⟩ := (b4.keep E5.bl).c
  go_wp2_with fail
  clear x0 x1 x2 x3
  refine (re_rText E5 (List.Mem.head _) (by omega)).mono ?_
  rintro e w6 ⟨rfl, E6⟩
  clear E5
  rw [r64_text]
  obtain ⟨x0, x1, x2, x3⟩ := (b4.keep E6.bl).c
  go_wp2_with fail
  clear x0 x1 x2 x3
  refine (re_floor E6 (List.Mem.head _) (by omega)).mono ?_
  rintro e w7 ⟨n5, a5, k5, c5, rfl, E7⟩
  clear E6
  go_wp2_with fail
  refine (re_rof E7 (-2) (by omega) (by omega)).mono ?_
  rintro e w8 ⟨n6, a6, k6, c6, rfl, E8⟩
  clear E7
  go_wp2_with fail
  refine (re_same E8 (List.Mem.tail _ (List.Mem.head _)) (List.Mem.head _)).mono ?_
  rintro e w9 ⟨rfl, E9⟩
  have HB := hid (below_call hW E9.bl hW.size)
  clear E8 E9
  rw [decide_eq_true r64_floor]
  go_wp2
  go_ret
  exact ⟨rfl, HB.out⟩

variable {U W W' : World} {KA KI : List (Value × Nat × Int)} {KR KS : List (Value × Nat × Rat)} {u v : Value} {n m : Nat} {x y : Int} {r t : Rat}
theorem re_awake2 (E : RE U W KA KI KR KS) : Calls Tryz.prog 5 #[] W fun e w' => e = .returned (.bool true) ∧ RE U w' KA KI KR KS := by
  refine (awake2_any W).mono ?_
  rintro e w' ⟨rfl, hb⟩
  exact ⟨rfl, E.step hb⟩
theorem re_sameRat (E : RE U W KA KI KR KS) (hu : (u, n, r) ∈ KS) (hv : (v, m, t) ∈ KS) : Calls Tryz.prog 10 #[u, v] W fun e w' => e = .returned (.bool (decide (r = t))) ∧ RE U w' KA KI KR KS := by
  refine (sameRat_any W u v n m r t (E.s _ hu) (E.s _ hv)).mono ?_
  rintro e w' ⟨rfl, hb⟩
  exact ⟨rfl, E.step hb⟩
theorem re_sameRatE (E : RE U W KA KI KR KS) (hu : (u, n, r) ∈ KS) (hv : (v, m, t) ∈ KS) (h : r = t) : Calls Tryz.prog 10 #[u, v] W fun e w' => e = .returned (.bool true) ∧ RE U w' KA KI KR KS := by
  refine (re_sameRat E hu hv).mono ?_
  rintro e w' ⟨rfl, hb⟩
  exact ⟨by rw [decide_eq_true h], hb⟩

end Go.Proofs.YtogdchddmjokmaaGreatDoor

namespace Go.Proofs.YtogdchddmjokmaaGreatDoor
open Go.RowKit Lm
set_option linter.unusedSimpArgs false
set_option linter.unusedVariables false
set_option maxRecDepth 100000

theorem great_r1 (W : World) (g : Nat) (n1 n2 : Bool) (a1 a2 : Option Addr) (k1 c1 k2 c2 : Nat) (hg : W.heap.size = g) (h1 : k1 ≤ 9223372036854775807) (h2 : k2 ≤ 9223372036854775807) :
    Calls Tryz.prog 4 #[.slice (some ⟨g, 0, none⟩) 1 1] (W.alloc (.cells #[.bool n1, .slice a1 k1 c1, .bool n2, .slice a2 k2 c2] 26)) fun e w' => e = .returned (.bool (greatR [(k1, k2)])) ∧ w' = W.alloc (.cells #[.bool n1, .slice a1 k1 c1, .bool n2, .slice a2 k2 c2] 26) := by
  subst hg
  have hh : (W.alloc (.cells #[.bool n1, .slice a1 k1 c1, .bool n2, .slice a2 k2 c2] 26)).heap[W.heap.size]? = some (.cells #[.bool n1, .slice a1 k1 c1, .bool n2, .slice a2 k2 c2] 26 (0, 0)) := heap_alloc_new W _
  refine great2_any _ W.heap.size 1 [(k1, k2)] (by simp) (fun i hi => ?_) (fun i hi => ?_)
  · simp at hi
    subst hi
    exact ⟨h1, h2⟩
  · simp at hi
    subst hi
    exact ⟨a1, c1, a2, c2, by rw [cell_of_row _ _ _ _ _ _ hh]; rfl, by rw [cell_of_row _ _ _ _ _ _ hh]; rfl⟩
theorem great_r2 (W : World) (g : Nat) (n1 n2 n3 n4 : Bool) (a1 a2 a3 a4 : Option Addr) (k1 c1 k2 c2 k3 c3 k4 c4 : Nat) (hg : W.heap.size = g) (h1 : k1 ≤ 9223372036854775807) (h2 : k2 ≤ 9223372036854775807) (h3 : k3 ≤ 9223372036854775807) (h4 : k4 ≤ 9223372036854775807) :
    Calls Tryz.prog 4 #[.slice (some ⟨g, 0, none⟩) 2 2] (W.alloc (.cells #[.bool n1, .slice a1 k1 c1, .bool n2, .slice a2 k2 c2, .bool n3, .slice a3 k3 c3, .bool n4, .slice a4 k4 c4] 26)) fun e w' => e = .returned (.bool (greatR [(k1, k2), (k3, k4)])) ∧ w' = W.alloc (.cells #[.bool n1, .slice a1 k1 c1, .bool n2, .slice a2 k2 c2, .bool n3, .slice a3 k3 c3, .bool n4, .slice a4 k4 c4] 26) := by
  subst hg
  have hh : (W.alloc (.cells #[.bool n1, .slice a1 k1 c1, .bool n2, .slice a2 k2 c2, .bool n3, .slice a3 k3 c3, .bool n4, .slice a4 k4 c4] 26)).heap[W.heap.size]? = some (.cells #[.bool n1, .slice a1 k1 c1, .bool n2, .slice a2 k2 c2, .bool n3, .slice a3 k3 c3, .bool n4, .slice a4 k4 c4] 26 (0, 0)) := heap_alloc_new W _
  refine great2_any _ W.heap.size 2 [(k1, k2), (k3, k4)] (by simp) (fun i hi => ?_) (fun i hi => ?_)
  · simp at hi
    rcases (show i = 0 ∨ i = 1 by omega) with rfl | rfl
    · exact ⟨h1, h2⟩
    · exact ⟨h3, h4⟩
  · simp at hi
    rcases (show i = 0 ∨ i = 1 by omega) with rfl | rfl
    · exact ⟨a1, c1, a2, c2, by rw [cell_of_row _ _ _ _ _ _ hh]; rfl, by rw [cell_of_row _ _ _ _ _ _ hh]; rfl⟩
    · exact ⟨a3, c3, a4, c4, by rw [cell_of_row _ _ _ _ _ _ hh]; rfl, by rw [cell_of_row _ _ _ _ _ _ hh]; rfl⟩
theorem great_r3 (W : World) (g : Nat) (n1 n2 n3 n4 n5 n6 : Bool) (a1 a2 a3 a4 a5 a6 : Option Addr) (k1 c1 k2 c2 k3 c3 k4 c4 k5 c5 k6 c6 : Nat) (hg : W.heap.size = g) (h1 : k1 ≤ 9223372036854775807) (h2 : k2 ≤ 9223372036854775807) (h3 : k3 ≤ 9223372036854775807) (h4 : k4 ≤ 9223372036854775807) (h5 : k5 ≤ 9223372036854775807) (h6 : k6 ≤ 9223372036854775807) :
    Calls Tryz.prog 4 #[.slice (some ⟨g, 0, none⟩) 3 3] (W.alloc (.cells #[.bool n1, .slice a1 k1 c1, .bool n2, .slice a2 k2 c2, .bool n3, .slice a3 k3 c3, .bool n4, .slice a4 k4 c4, .bool n5, .slice a5 k5 c5, .bool n6, .slice a6 k6 c6] 26)) fun e w' => e = .returned (.bool (greatR [(k1, k2), (k3, k4), (k5, k6)])) ∧ w' = W.alloc (.cells #[.bool n1, .slice a1 k1 c1, .bool n2, .slice a2 k2 c2, .bool n3, .slice a3 k3 c3, .bool n4, .slice a4 k4 c4, .bool n5, .slice a5 k5 c5, .bool n6, .slice a6 k6 c6] 26) := by
  subst hg
  have hh : (W.alloc (.cells #[.bool n1, .slice a1 k1 c1, .bool n2, .slice a2 k2 c2, .bool n3, .slice a3 k3 c3, .bool n4, .slice a4 k4 c4, .bool n5, .slice a5 k5 c5, .bool n6, .slice a6 k6 c6] 26)).heap[W.heap.size]? = some (.cells #[.bool n1, .slice a1 k1 c1, .bool n2, .slice a2 k2 c2, .bool n3, .slice a3 k3 c3, .bool n4, .slice a4 k4 c4, .bool n5, .slice a5 k5 c5, .bool n6, .slice a6 k6 c6] 26 (0, 0)) := heap_alloc_new W _
  refine great2_any _ W.heap.size 3 [(k1, k2), (k3, k4), (k5, k6)] (by simp) (fun i hi => ?_) (fun i hi => ?_)
  · simp at hi
    rcases (show i = 0 ∨ i = 1 ∨ i = 2 by omega) with rfl | rfl | rfl
    · exact ⟨h1, h2⟩
    · exact ⟨h3, h4⟩
    · exact ⟨h5, h6⟩
  · simp at hi
    rcases (show i = 0 ∨ i = 1 ∨ i = 2 by omega) with rfl | rfl | rfl
    · exact ⟨a1, c1, a2, c2, by rw [cell_of_row _ _ _ _ _ _ hh]; rfl, by rw [cell_of_row _ _ _ _ _ _ hh]; rfl⟩
    · exact ⟨a3, c3, a4, c4, by rw [cell_of_row _ _ _ _ _ _ hh]; rfl, by rw [cell_of_row _ _ _ _ _ _ hh]; rfl⟩
    · exact ⟨a5, c5, a6, c6, by rw [cell_of_row _ _ _ _ _ _ hh]; rfl, by rw [cell_of_row _ _ _ _ _ _ hh]; rfl⟩

theorem rarg_mk {W : World} {n1 n2 : Bool} {a1 a2 : Option Addr} {c1 c2 : Nat} {l1 l2 : List Nat} (h1 : SlAt W a1 c1 l1) (h2 : SlAt W a2 c2 l2) : ∀ n, l1.length ≤ n → l2.length ≤ n → RArg W (.agg #[.bool n1, .slice a1 l1.length c1, .bool n2, .slice a2 l2.length c2]) n (ratMean n1 l1 n2 l2) :=
  fun n k1 k2 => ⟨n1, _, l1, n2, _, l2, rfl, ⟨a1, c1, rfl, h1⟩, ⟨a2, c2, rfl, h2⟩, k1, k2, rfl⟩
theorem slat_len {W : World} {a : Option Addr} {c : Nat} {l : List Nat} (h : SlAt W a c l) : l.length ≤ 9223372036854775807 := by
  have h1 := h.2.1
  have h2 := h.2.2.1
  unfold maxLen at h2
  omega
theorem great_small {L : List (Nat × Nat)} (h : greatR L = false) : ∀ p ∈ L, p.1 ≤ 6 ∧ p.2 ≤ 6 := by
  intro p hp
  unfold greatR at h
  rw [List.any_eq_false] at h
  have := h p hp
  simp at this
  omega

/-- The order, as Cmp tells it. -/
theorem cmpR_lt {r t : Rat} (h : r < t) : cmpR r t = -1 := by unfold cmpR; rw [if_pos h]
theorem cmpR_gt {r t : Rat} (h : t < r) : cmpR r t = 1 := by
  have h1 : ¬ r < t := fun h2 => by grind
  unfold cmpR; rw [if_neg h1, if_pos h]
theorem cmpR_eq {r t : Rat} (h : r = t) : cmpR r t = 0 := by
  subst h
  have h1 : ¬ r < r := by grind
  unfold cmpR; rw [if_neg h1, if_neg h1]
theorem cmpR_or (r t : Rat) : (r < t ∧ cmpR r t = -1) ∨ (r = t ∧ cmpR r t = 0) ∨ (t < r ∧ cmpR r t = 1) := by
  by_cases h1 : r < t
  · exact .inl ⟨h1, cmpR_lt h1⟩
  · by_cases h2 : t < r
    · exact .inr (.inr ⟨h2, cmpR_gt h2⟩)
    · have h3 : r = t := by grind
      exact .inr (.inl ⟨h3, cmpR_eq h3⟩)
theorem cmpR_le {r t : Rat} (h : r ≤ t) : cmpR r t ≤ 0 := by
  rcases cmpR_or r t with ⟨_, h2⟩ | ⟨_, h2⟩ | ⟨h1, h2⟩
  · omega
  · omega
  · grind

end Go.Proofs.YtogdchddmjokmaaGreatDoor
