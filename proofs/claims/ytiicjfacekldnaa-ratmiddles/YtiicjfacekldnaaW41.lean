/-
  Walks: Floor.
-/
import Derived.Test.YtiicjfacekldnaaW37
namespace Go.Proofs.Ytiicjfacekldnaa
open Go.RowKit Lm
set_option linter.unusedSimpArgs false
set_option linter.unusedVariables false
set_option maxRecDepth 100000

theorem Is.off2 {W : World} {lo n g k c : Nat} {v : Value} {x : Int} {a : Option Addr} {b b' : Bool} (h : Is W lo v n x) (hg : Box W g (.bool b) (.slice a k c)) (z : Value) : Is ((W.setCell ⟨g, 0, none⟩ (.bool b')).setCell ⟨g, 1, none⟩ z) lo v n x := by
  obtain ⟨neg, ao, cap, l, e, hs, hr⟩ := h
  exact ⟨neg, ao, cap, l, e, (hs.offBox hg _).offBox (hg.set0 _) _, hr⟩
theorem den_ne (r : Rat) : (r.den : Int) ≠ 0 := by have := r.den_pos; omega

set_option maxHeartbeats 3200000 in
theorem ratFloor_any (w : World) (u : Value) (n : Nat) (r : Rat) (hu : RArg w u n r) (hn : n ≤ 40000) :
    Calls Try.prog 53 #[u] w (Told 0 (n + 5) r.floor w) := by
  have HX := hid hu
  obtain ⟨n1, a1, k1, c1, n2, a2, k2, c2, rfl⟩ := hu.shape
  clear hu
  go_enter Try.func53, Try.ntmps53
  go_wp2_with fail
  have hW0 : Below w.heap.size w ((w.alloc (.cells #[.bool n1, .slice a1 k1 c1, .bool n2, .slice a2 k2 c2] 43)).alloc (.cells #[.bool false, .slice none 0 0] 24)) := (by repeat (first | exact Below.refl _ _ | refine Below.alloc ?_ ?_ _ | refine Below.setCell ?_ ?_ _ | refine Below.drew ?_ | refine below_drewN ?_ _ | (· simp) | omega | (· simp; omega) | exact Below.size (by assumption) | assumption | refine below_call ?_ (by assumption) ?_))
  have bA : Box4 ((w.alloc (.cells #[.bool n1, .slice a1 k1 c1, .bool n2, .slice a2 k2 c2] 43)).alloc (.cells #[.bool false, .slice none 0 0] 24)) w.heap.size (.bool n1) (.slice a1 k1 c1) (.bool n2) (.slice a2 k2 c2) := (Box4.new _ _ _ _ _ _ rfl).alloc _
  have bR : Box ((w.alloc (.cells #[.bool n1, .slice a1 k1 c1, .bool n2, .slice a2 k2 c2] 43)).alloc (.cells #[.bool false, .slice none 0 0] 24)) (w.heap.size + 1) (.bool false) (.slice none 0 0) := Box.new _ _ _ _ (by simp)
  generalize (w.alloc (.cells #[.bool n1, .slice a1 k1 c1, .bool n2, .slice a2 k2 c2] 43)).alloc (.cells #[.bool false, .slice none 0 0] 24) = W0 at *
  refine (ratCounted_any _ _ n r (HX.out.below hW0) (by omega)).mono ?_
  rintro e w1 ⟨m1, p1, j1, d1, m2, p2, j2, d2, rfl, C1, C2, hb1⟩
  have hW1 := below_call hW0 hb1 hW0.size
  have E0 : RE w1 w1 [(.agg #[.bool m1, .slice p1 j1 d1], n + 2, r.num), (.agg #[.bool m2, .slice p2 j2 d2], n + 2, (r.den : Int))] [] [] [] := ((RE.none w1).know C2).know C1
  replace bA := bA.keep hb1
  replace bR := bR.keep hb1
  have E := hid (E0.refill bA (.bool m1) (.slice p1 j1 d1) (.bool m2) (.slice p2 j2 d2))
  have hW2 := below_fill4 hW1 (show w.heap.size ≤ w.heap.size by omega) (.bool m1) (.slice p1 j1 d1) (.bool m2) (.slice p2 j2 d2)
  have bR2 := hid (bR.beside4 (show w.heap.size + 1 ≠ w.heap.size by omega) (.bool m1) (.slice p1 j1 d1) (.bool m2) (.slice p2 j2 d2))
  obtain ⟨y0, y1, y2, y3⟩ := bA.c
  have yf := bA.f
  have lA := bA.lt
  clear C1 C2 E0 hW1 hW0 hb1 HX bR
  go_wp2_with fail
  clear y0 y1 y2 y3 yf lA bA
  rw [fill4_eq]
  have hW3 := hid hW2
  clear hW2
  generalize fill4 w1 w.heap.size (.bool m1) (.slice p1 j1 d1) (.bool m2) (.slice p2 j2 d2) = W1 at *
  refine (div_any _ _ _ (n + 2) (n + 2) r.num r.den (E.out.a _ (.head _)) (E.out.a _ (.tail _ (.head _))) (den_ne r) (by omega) (by omega)).mono ?_
  rintro e w2 ⟨nq, aq, kq, cq, nr, ar, kr, cr, rfl, Iq, Ir, hb2⟩
  have hW4 := below_call hW3.out hb2 hW3.out.size
  have bR3 := (bR2.out.keep hb2)
  have lR3 := bR3.lt
  have hst : Below w2.heap.size w2 ((w2.alloc (.cells #[.bool nq, .slice aq kq cq] 24)).alloc (.cells #[.bool nr, .slice ar kr cr] 24)) := ((Below.refl _ _).alloc (Nat.le_refl _) _).alloc (by simp) _
  have JQ := hid (Iq.below hst)
  have JR := hid (Ir.below hst)
  have bQ : Box ((w2.alloc (.cells #[.bool nq, .slice aq kq cq] 24)).alloc (.cells #[.bool nr, .slice ar kr cr] 24)) w2.heap.size (.bool nq) (.slice aq kq cq) := (Box.new _ _ _ _ rfl).alloc _
  have bR4 := bR3.keep hst
  have hW5 := below_call hW4 hst hW4.size
  clear hb2 Iq Ir hW4 hW3 bR2 E bR3 hst
  go_wp2_with fail
  generalize ((w2.alloc (.cells #[.bool nq, .slice aq kq cq] 24)).alloc (.cells #[.bool nr, .slice ar kr cr] 24)) = W2 at *
  refine (sign_any _ _ _ _ JR.out.arg).mono ?_
  rintro e w3 ⟨rfl, hb3⟩
  have hW6 := below_call hW5 hb3 hW5.size
  replace bQ := bQ.keep hb3
  have bR5 := bR4.keep hb3
  have KQ := hid (JQ.out.below hb3)
  clear hb3 JQ JR bR4 hW5
  by_cases hneg : r.num.tmod r.den < 0
  · rw [cmpI_lt hneg]
    have HF : Hid (r.floor = r.num.tdiv r.den - 1) := hid (by rw [floor_rat, if_pos hneg])
    clear hneg
    have q0 := bQ.c0
    have q1 := bQ.c1
    go_wp2_with fail
    clear q0 q1
    have E : RE w3 w3.drew [(.agg #[.bool nq, .slice aq kq cq], n + 2, r.num.tdiv r.den)] [] [] [] := ((RE.none w3).know KQ.out.arg).drew
    go_region_held3 (fun W' => W'.cell? ⟨w2.heap.size, 0, none⟩ = some (.bool nq) ∧ W'.cell? ⟨w2.heap.size, 1, none⟩ = some (.slice aq kq cq)) (first | exact ⟨(bQ.keep E.bl).c0, (bQ.keep E.bl).c1⟩ | exact ⟨(((bQ.keep E.bl).other (by show w2.heap.size ≠ w.heap.size + 1; omega) _).other (by show w2.heap.size ≠ w.heap.size + 1; omega) _).c0, (((bQ.keep E.bl).other (by show w2.heap.size ≠ w.heap.size + 1; omega) _).other (by show w2.heap.size ≠ w.heap.size + 1; omega) _).c1⟩) (first
      | (go_at_call 64; go_must (refine (re_of E _ (by omega) (by omega)).mono ?_); rintro e wn ⟨n5, a5, k5, c5, rfl, En⟩; clear E; have E := En; clear En)
      | (go_at_call 32; go_must (refine (re_sub E (by repeat (first | exact List.Mem.head _ | refine List.Mem.tail _ ?_)) (by repeat (first | exact List.Mem.head _ | refine List.Mem.tail _ ?_)) (by omega) (by omega)).mono ?_); rintro e wn ⟨n6, a6, k6, c6, rfl, En⟩; clear E; have E := En; clear En; have z0 := (bR5.keep E.bl).c0; have z1 := (bR5.keep E.bl).c1; have zf := (bR5.keep E.bl).f; have zl := (bR5.keep E.bl).lt))
    have HI := hid ((E.i _ (List.Mem.head _)).off2 (b' := n6) (bR5.keep E.bl) (.slice a6 k6 c6))
    have hWn := below_call hW6 E.bl hW6.size
    have HW : Hid (Below w.heap.size w ((wn.setCell ⟨w.heap.size + 1, 0, none⟩ (.bool n6)).setCell ⟨w.heap.size + 1, 1, none⟩ (.slice a6 k6 c6))) := hid ((hWn.setCell (by show w.heap.size ≤ w.heap.size + 1; omega) _).setCell (by show w.heap.size ≤ w.heap.size + 1; omega) _)
    clear E bQ bR5 hWn
    go_wp2
    refine bodyPost_ret (v := .agg #[.bool n6, .slice a6 k6 c6]) ?_ rfl ⟨n6, a6, k6, c6, rfl, ?_, HW.out⟩
    · simp [results, Try.results53, go_sem, z0, z1]
    · rw [HF.out]
      exact HI.out.mono (Nat.le_refl _) (by omega)
  · have hcm : ¬ cmpI (r.num.tmod r.den) 0 < 0 := by
      unfold cmpI
      rw [if_neg hneg]
      split <;> omega
    have HF : Hid (r.floor = r.num.tdiv r.den) := hid (by rw [floor_rat, if_neg hneg])
    clear hneg
    have q0 := bQ.c0
    have q1 := bQ.c1
    have qL := bQ.lt
    have z0 := bR5.c0
    have z1 := bR5.c1
    have zf := bR5.f
    have zl := bR5.lt
    have HI := hid (KQ.out.off2 (b' := nq) bR5 (.slice aq kq cq))
    have HW : Hid (Below w.heap.size w ((w3.setCell ⟨w.heap.size + 1, 0, none⟩ (.bool nq)).setCell ⟨w.heap.size + 1, 1, none⟩ (.slice aq kq cq))) := hid ((hW6.setCell (by show w.heap.size ≤ w.heap.size + 1; omega) _).setCell (by show w.heap.size ≤ w.heap.size + 1; omega) _)
    clear bQ bR5
    go_wp2
    refine bodyPost_ret (v := .agg #[.bool nq, .slice aq kq cq]) ?_ rfl ⟨nq, aq, kq, cq, rfl, ?_, HW.out⟩
    · simp [results, Try.results53, go_sem, z0, z1]
    · rw [HF.out]
      exact HI.out.mono (Nat.zero_le _) (by omega)

end Go.Proofs.Ytiicjfacekldnaa
