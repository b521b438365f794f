/-
  Walks: the law NumSquares.
-/
import Derived.Test.YtiicjfacekldnaaF7x
namespace Go.Proofs.Ytiicjfacekldnaa
open Go.RowKit Lm
set_option linter.unusedSimpArgs false
set_option linter.unusedVariables false
set_option maxRecDepth 100000

theorem sq_diff2 (x y : Int) : (x + y) * (x - y) = x * x - y * y := by
  rw [Int.add_mul, Int.mul_sub, Int.mul_sub, Int.mul_comm y x]; omega

set_option maxHeartbeats 12800000 in
theorem numSquares_nz (w : World) (n1 : Bool) (a1 : Option Addr) (c1 : Nat) (l1 : List Nat) (n2 : Bool) (a2 : Option Addr) (c2 : Nat) (l2 : List Nat) (h1 : SlAt w a1 c1 l1) (h2 : SlAt w a2 c2 l2) (hy : mean n2 l2 ≠ 0) :
    Calls Try.prog 5 #[.agg #[.bool n1, .slice a1 l1.length c1], .agg #[.bool n2, .slice a2 l2.length c2]] w fun e w' => e = .returned (.bool true) ∧ Below w.heap.size w w' := by
  have HY0 := hid hy
  clear hy
  have m1 := h1.2.2.1
  have m2 := h2.2.2.1
  have q1 := h1.2.1
  have q2 := h2.2.1
  unfold maxLen at m1 m2
  have hk1 : l1.length ≤ 9223372036854775807 := by omega
  have hk2 : l2.length ≤ 9223372036854775807 := by omega
  have X := arg_mk (neg := n1) h1
  have Y := arg_mk (neg := n2) h2
  generalize mean n1 l1 = x at *
  generalize mean n2 l2 = y at *
  clear h1 h2 m1 m2 q1 q2
  generalize l1.length = L1 at *
  generalize l2.length = L2 at *
  go_enter Try.func5, Try.ntmps5
  go_wp2_with fail
  refine (great_two _ _ (by simp) n1 n2 a1 a2 L1 L2 c1 c2 hk1 hk2).mono ?_
  rintro e w0 ⟨rfl, rfl⟩
  have hW0 : Below w.heap.size w (((w.alloc (.cells #[.bool n1, .slice a1 L1 c1] 24)).alloc (.cells #[.bool n2, .slice a2 L2 c2] 24)).alloc (.cells #[.bool n1, .slice a1 L1 c1, .bool n2, .slice a2 L2 c2] 24)) := (by repeat (first | exact Below.refl _ _ | refine Below.alloc ?_ ?_ _ | refine Below.setCell ?_ ?_ _ | refine Below.drew ?_ | refine below_drewN ?_ _ | (· simp) | omega | (· simp; omega) | exact Below.size (by assumption) | assumption | refine below_call ?_ (by assumption) ?_))
  have E : Env w (((w.alloc (.cells #[.bool n1, .slice a1 L1 c1] 24)).alloc (.cells #[.bool n2, .slice a2 L2 c2] 24)).alloc (.cells #[.bool n1, .slice a1 L1 c1, .bool n2, .slice a2 L2 c2] 24)) [(w.heap.size + 1, .bool n2, .slice a2 L2 c2), (w.heap.size, .bool n1, .slice a1 L1 c1)] [(Value.agg #[.bool false, .slice none 0 0], 0, 0), (Value.agg #[.bool n2, .slice a2 L2 c2], L2, y), (Value.agg #[.bool n1, .slice a1 L1 c1], L1, x)] [(Value.agg #[.bool false, .slice none 0 0], 0, 0)] := by
    refine Env.zero (Env.know (Env.know ⟨?_, by simp, by simp, hW0⟩ (X.below hW0)) (Y.below hW0))
    intro p hp
    simp only [List.mem_cons, List.not_mem_nil, or_false] at hp
    rcases hp with rfl | rfl
    · exact (Box.new _ _ _ _ (by simp)).alloc _
    · exact ((Box.new w _ _ _ rfl).alloc _).alloc _
  clear hW0 X Y
  generalize ((w.alloc (.cells #[.bool n1, .slice a1 L1 c1] 24)).alloc (.cells #[.bool n2, .slice a2 L2 c2] 24)).alloc (.cells #[.bool n1, .slice a1 L1 c1, .bool n2, .slice a2 L2 c2] 24) = u0 at *
  obtain ⟨xb0, xb1, xa0, xa1⟩ := cells2 E
  by_cases hbig : greatB [L1, L2] = true ∨ 12 < L1 ∨ 12 < L2
  · cases hG : greatB [L1, L2]
    · by_cases hL1 : 12 < L1
      · go_wp2_with fail
        refine (env_awake E).mono ?_
        rintro e w2 ⟨rfl, E2⟩
        go_wp2
        go_ret
        exact ⟨rfl, E2.bl⟩
      · have hL2 : 12 < L2 := by rw [hG] at hbig; simp at hbig; omega
        go_wp2_with fail
        refine (env_awake E).mono ?_
        rintro e w2 ⟨rfl, E2⟩
        go_wp2
        go_ret
        exact ⟨rfl, E2.bl⟩
    · go_wp2_with fail
      refine (env_awake E).mono ?_
      rintro e w2 ⟨rfl, E2⟩
      go_wp2
      go_ret
      exact ⟨rfl, E2.bl⟩
  · have hG : greatB [L1, L2] = false := by
      cases h : greatB [L1, L2]
      · rfl
      · exact absurd (.inl h) hbig
    have hl1 : L1 ≤ 12 := by omega
    have hl2 : L2 ≤ 12 := by omega
    rw [hG]
    clear hG hbig hk1 hk2
    go_wp2_with fail
    clear xa0 xa1 xb0 xb1
    replace E := E.drew
    go_region_held3 (fun W' => (W'.cell? ⟨w.heap.size + 1, 0, none⟩ = some (.bool n2) ∧ W'.cell? ⟨w.heap.size + 1, 1, none⟩ = some (.slice a2 L2 c2) ∧ W'.cell? ⟨w.heap.size, 0, none⟩ = some (.bool n1) ∧ W'.cell? ⟨w.heap.size, 1, none⟩ = some (.slice a1 L1 c1))) (exact cells2 E) (first
      | (go_at_call 31; go_must (refine (env_add E (by repeat (first | exact List.Mem.head _ | refine List.Mem.tail _ ?_)) (by repeat (first | exact List.Mem.head _ | refine List.Mem.tail _ ?_)) (by omega) (by omega)).mono ?_); rintro e wn ⟨nn, an, kn, cn, rfl, En⟩; clear E; have E := En; clear En)
      | (go_at_call 32; go_must (refine (env_sub E (by repeat (first | exact List.Mem.head _ | refine List.Mem.tail _ ?_)) (by repeat (first | exact List.Mem.head _ | refine List.Mem.tail _ ?_)) (by omega) (by omega)).mono ?_); rintro e wn ⟨nn, an, kn, cn, rfl, En⟩; clear E; have E := En; clear En)
      | (go_at_call 30; go_must (refine (env_mul E (by repeat (first | exact List.Mem.head _ | refine List.Mem.tail _ ?_)) (by repeat (first | exact List.Mem.head _ | refine List.Mem.tail _ ?_)) (by omega) (by omega)).mono ?_); rintro e wn ⟨nn, an, kn, cn, rfl, En⟩; clear E; have E := En; clear En)
      | (go_at_call 22; go_must (refine (env_same E (by repeat (first | exact List.Mem.head _ | refine List.Mem.tail _ ?_)) (by repeat (first | exact List.Mem.head _ | refine List.Mem.tail _ ?_)) (by first | exact sq_diff2 _ _ | omega)).mono ?_); rintro e wn ⟨rfl, En⟩; clear E; have E := En; clear En))
    have En := E.less (B' := [(w.heap.size + 1, .bool n2, .slice a2 L2 c2), (w.heap.size, .bool n1, .slice a1 L1 c1)]) (KA' := [(Value.agg #[.bool false, .slice none 0 0], 0, 0), (Value.agg #[.bool n2, .slice a2 L2 c2], L2, y), (Value.agg #[.bool n1, .slice a1 L1 c1], L1, x)]) (KI' := [(Value.agg #[.bool false, .slice none 0 0], 0, 0)]) (by simp) (by simp) (by simp)
    clear E
    have E := En
    clear En
    go_wp2_with fail
    generalize wn = U at *
    have HU := hid E.bl
    have HLT := hid E.lts
    have HES := hid E
    replace E := E.rebase
    have bB := E.b1
    have bA := E.b2
    have lA0 := bA.lt
    have lB0 := bB.lt
    obtain ⟨xb0, xb1, xa0, xa1⟩ := cells2 E
    go_cut [5, 6, 7] (fun p5 p6 e7 wc => ∃ g5 g6 nq aq kq cq nr ar kr cr, p5 = .pointer (some ⟨g5, 0, none⟩) ∧ p6 = .pointer (some ⟨g6, 0, none⟩) ∧ e7 = .int .i64 0 ∧ Env w wc [(g5, .bool nq, .slice aq kq cq), (g6, .bool nr, .slice ar kr cr), (w.heap.size + 1, Value.bool n2, Value.slice a2 L2 c2), (w.heap.size, Value.bool n1, Value.slice a1 L1 c1)] [(Value.agg #[.bool nq, .slice aq kq cq], L1 + L2, (x * y).tdiv y), (Value.agg #[.bool nr, .slice ar kr cr], L1 + L2 + L2, (x * y).tmod y), (Value.agg #[.bool false, .slice none 0 0], 0, 0), (Value.agg #[.bool n2, .slice a2 L2 c2], L2, y), (Value.agg #[.bool n1, .slice a1 L1 c1], L1, x)] [(Value.agg #[.bool nq, .slice aq kq cq], L1 + L2, (x * y).tdiv y), (Value.agg #[.bool nr, .slice ar kr cr], L1 + L2 + L2, (x * y).tmod y), (Value.agg #[.bool false, .slice none 0 0], 0, 0)])
    case first =>
      go_region_held3 (fun W' => (W'.cell? ⟨w.heap.size + 1, 0, none⟩ = some (.bool n2) ∧ W'.cell? ⟨w.heap.size + 1, 1, none⟩ = some (.slice a2 L2 c2) ∧ W'.cell? ⟨w.heap.size, 0, none⟩ = some (.bool n1) ∧ W'.cell? ⟨w.heap.size, 1, none⟩ = some (.slice a1 L1 c1))) (refine keep2 (?_ : Box _ _ _ _) (?_ : Box _ _ _ _) <;> (repeat (first | with_reducible exact bA | with_reducible exact bB | with_reducible exact bz1 | with_reducible exact bz2 | with_reducible apply Box.set0 | with_reducible apply Box.set1 | (with_reducible apply Box.off; (first | omega | (simp only [] <;> omega))) | with_reducible exact Box.new _ _ _ _ (by first | rfl | simp) | with_reducible refine Box.alloc ?_ _ | with_reducible refine Box.drew ?_))) (first
        | (go_at_call 30; have ze := E.bl.size; (first | (with_reducible refine (env_mul E (by with_unfolding_all repeat (first | exact List.Mem.head _ | refine List.Mem.tail _ ?_)) (by with_unfolding_all repeat (first | exact List.Mem.head _ | refine List.Mem.tail _ ?_)) (by with_unfolding_all omega) (by with_unfolding_all omega)).mono ?_) | (with_reducible refine (env_mul E.drew (by with_unfolding_all repeat (first | exact List.Mem.head _ | refine List.Mem.tail _ ?_)) (by with_unfolding_all repeat (first | exact List.Mem.head _ | refine List.Mem.tail _ ?_)) (by with_unfolding_all omega) (by with_unfolding_all omega)).mono ?_) | (with_reducible refine (env_mul (E.box (.bool false) (.slice none 0 0)) (by with_unfolding_all repeat (first | exact List.Mem.head _ | refine List.Mem.tail _ ?_)) (by with_unfolding_all repeat (first | exact List.Mem.head _ | refine List.Mem.tail _ ?_)) (by with_unfolding_all omega) (by with_unfolding_all omega)).mono ?_) | (with_reducible refine (env_mul (E.box (.bool false) (.slice none 0 0)).drew (by with_unfolding_all repeat (first | exact List.Mem.head _ | refine List.Mem.tail _ ?_)) (by with_unfolding_all repeat (first | exact List.Mem.head _ | refine List.Mem.tail _ ?_)) (by with_unfolding_all omega) (by with_unfolding_all omega)).mono ?_) | (with_reducible refine (env_mul ((E.box (.bool false) (.slice none 0 0)).box (.bool false) (.slice none 0 0)) (by with_unfolding_all repeat (first | exact List.Mem.head _ | refine List.Mem.tail _ ?_)) (by with_unfolding_all repeat (first | exact List.Mem.head _ | refine List.Mem.tail _ ?_)) (by with_unfolding_all omega) (by with_unfolding_all omega)).mono ?_) | (with_reducible refine (env_mul ((E.box (.bool false) (.slice none 0 0)).box (.bool false) (.slice none 0 0)).drew (by with_unfolding_all repeat (first | exact List.Mem.head _ | refine List.Mem.tail _ ?_)) (by with_unfolding_all repeat (first | exact List.Mem.head _ | refine List.Mem.tail _ ?_)) (by with_unfolding_all omega) (by with_unfolding_all omega)).mono ?_)); rintro e wn ⟨nn, an, kn, cn, rfl, En⟩; clear E; have E := En; clear En; (try clear z10 z11 z1f z20 z21 z2f bz1 bz2); have bz1 := E.b1; have bz2 := E.b2; (try simp only [asize, dsize] at bz1); (try simp only [asize, dsize] at bz2); have z10 := bz1.c0; have z11 := bz1.c1; have z1f := bz1.f; have z1l := bz1.lt; have z20 := bz2.c0; have z21 := bz2.c1; have z2f := bz2.f; have z2l := bz2.lt; have ze0 := E.bl.size; have zn1 := Nat.ne_of_lt z1l; have zn2 := Nat.ne_of_gt z1l; have zn3 := Nat.ne_of_lt z2l; have zn4 := Nat.ne_of_gt z2l; (try clear bA bB); have bA := E.bm (g := w.heap.size) (p := Value.bool n1) (q := Value.slice a1 L1 c1) (by simp); have bB := E.bm (g := w.heap.size + 1) (p := Value.bool n2) (q := Value.slice a2 L2 c2) (by simp); have lA := bA.lt; have lB := bB.lt)
        | (go_at_call 20; have ze := E.bl.size; (first | (with_reducible refine (env_div E (by with_unfolding_all repeat (first | exact List.Mem.head _ | refine List.Mem.tail _ ?_)) (by with_unfolding_all repeat (first | exact List.Mem.head _ | refine List.Mem.tail _ ?_)) HY0.out (by with_unfolding_all omega) (by with_unfolding_all omega)).mono ?_) | (with_reducible refine (env_div E.drew (by with_unfolding_all repeat (first | exact List.Mem.head _ | refine List.Mem.tail _ ?_)) (by with_unfolding_all repeat (first | exact List.Mem.head _ | refine List.Mem.tail _ ?_)) HY0.out (by with_unfolding_all omega) (by with_unfolding_all omega)).mono ?_) | (with_reducible refine (env_div (E.box (.bool false) (.slice none 0 0)) (by with_unfolding_all repeat (first | exact List.Mem.head _ | refine List.Mem.tail _ ?_)) (by with_unfolding_all repeat (first | exact List.Mem.head _ | refine List.Mem.tail _ ?_)) HY0.out (by with_unfolding_all omega) (by with_unfolding_all omega)).mono ?_) | (with_reducible refine (env_div (E.box (.bool false) (.slice none 0 0)).drew (by with_unfolding_all repeat (first | exact List.Mem.head _ | refine List.Mem.tail _ ?_)) (by with_unfolding_all repeat (first | exact List.Mem.head _ | refine List.Mem.tail _ ?_)) HY0.out (by with_unfolding_all omega) (by with_unfolding_all omega)).mono ?_) | (with_reducible refine (env_div ((E.box (.bool false) (.slice none 0 0)).box (.bool false) (.slice none 0 0)) (by with_unfolding_all repeat (first | exact List.Mem.head _ | refine List.Mem.tail _ ?_)) (by with_unfolding_all repeat (first | exact List.Mem.head _ | refine List.Mem.tail _ ?_)) HY0.out (by with_unfolding_all omega) (by with_unfolding_all omega)).mono ?_) | (with_reducible refine (env_div ((E.box (.bool false) (.slice none 0 0)).box (.bool false) (.slice none 0 0)).drew (by with_unfolding_all repeat (first | exact List.Mem.head _ | refine List.Mem.tail _ ?_)) (by with_unfolding_all repeat (first | exact List.Mem.head _ | refine List.Mem.tail _ ?_)) HY0.out (by with_unfolding_all omega) (by with_unfolding_all omega)).mono ?_)); rintro e wn ⟨nq, aq, kq, cq, nr, ar, kr, cr, rfl, En⟩; clear E; have E := En; clear En; (try clear z10 z11 z1f z20 z21 z2f bz1 bz2); have bz1 := E.b1; have bz2 := E.b2; (try simp only [asize, dsize] at bz1); (try simp only [asize, dsize] at bz2); have z10 := bz1.c0; have z11 := bz1.c1; have z1f := bz1.f; have z1l := bz1.lt; have z20 := bz2.c0; have z21 := bz2.c1; have z2f := bz2.f; have z2l := bz2.lt; have ze0 := E.bl.size; have zn1 := Nat.ne_of_lt z1l; have zn2 := Nat.ne_of_gt z1l; have zn3 := Nat.ne_of_lt z2l; have zn4 := Nat.ne_of_gt z2l; (try clear bA bB); have bA := E.bm (g := w.heap.size) (p := Value.bool n1) (q := Value.slice a1 L1 c1) (by simp); have bB := E.bm (g := w.heap.size + 1) (p := Value.bool n2) (q := Value.slice a2 L2 c2) (by simp); have lA := bA.lt; have lB := bB.lt))
      all_goals (have E2 := E.less (B' := [(w.heap.size + 1, Value.bool n2, Value.slice a2 L2 c2), (w.heap.size, Value.bool n1, Value.slice a1 L1 c1)]) (KA' := [(Value.agg #[.bool nq, .slice aq kq cq], L1 + L2, (x * y).tdiv y), (Value.agg #[.bool nr, .slice ar kr cr], L1 + L2 + L2, (x * y).tmod y), (Value.agg #[.bool false, .slice none 0 0], 0, 0), (Value.agg #[.bool n2, .slice a2 L2 c2], L2, y), (Value.agg #[.bool n1, .slice a1 L1 c1], L1, x)]) (KI' := [(Value.agg #[.bool nq, .slice aq kq cq], L1 + L2, (x * y).tdiv y), (Value.agg #[.bool nr, .slice ar kr cr], L1 + L2 + L2, (x * y).tmod y), (Value.agg #[.bool false, .slice none 0 0], 0, 0)]) (by simp) (by simp) (by simp); go_wp2_with fail; go_meet; refine ⟨_, _, nq, aq, kq, cq, nr, ar, kr, cr, rfl, rfl, rfl, Env.onto HU.out (Env.with (Env.with ?_ ?_) ?_)⟩; rotate_left; (focus ((repeat (first | with_reducible exact bA | with_reducible exact bB | with_reducible exact bz1 | with_reducible exact bz2 | with_reducible apply Box.set0 | with_reducible apply Box.set1 | (with_reducible apply Box.off; (first | omega | (simp only [] <;> omega))) | with_reducible exact Box.new _ _ _ _ (by first | rfl | simp) | with_reducible refine Box.alloc ?_ _ | with_reducible refine Box.drew ?_)))); (focus ((repeat (first | with_reducible exact bA | with_reducible exact bB | with_reducible exact bz1 | with_reducible exact bz2 | with_reducible apply Box.set0 | with_reducible apply Box.set1 | (with_reducible apply Box.off; (first | omega | (simp only [] <;> omega))) | with_reducible exact Box.new _ _ _ _ (by first | rfl | simp) | with_reducible refine Box.alloc ?_ _ | with_reducible refine Box.drew ?_)))); (focus ((repeat (first | with_reducible exact E2 | (with_reducible apply Env.storeU (hl := HLT.out); rotate_left; ((try simp only []); omega); focus ((repeat (first | with_reducible exact bA | with_reducible exact bB | with_reducible exact bz1 | with_reducible exact bz2 | with_reducible apply Box.set0 | with_reducible apply Box.set1 | (with_reducible apply Box.off; (first | omega | (simp only [] <;> omega))) | with_reducible exact Box.new _ _ _ _ (by first | rfl | simp) | with_reducible refine Box.alloc ?_ _ | with_reducible refine Box.drew ?_)))) | with_reducible refine Env.alloc ?_ _ | with_reducible refine Env.drew ?_)))))
    case rest =>
      obtain ⟨g5, g6, nq, aq, kq, cq, nr, ar, kr, cr, rfl, rfl, rfl, Ec⟩ := hcut
      clear E xa0 xa1 xb0 xb1 bA bB lA0 lB0 HES HLT HU
      obtain ⟨q0, q1, r0, r1, xb0, xb1, xa0, xa1⟩ := cells4 Ec
      have HR0 : Hid (kr = 0) := hid (is_len0 (by have := Ec.i (Value.agg #[.bool nr, .slice ar kr cr], L1 + L2 + L2, (x * y).tmod y) (by simp); rwa [show (x * y).tmod y = 0 from Int.mul_tmod_left x y] at this))
      go_wp2_with fail
      refine (env_cmp2 Ec (u := .agg #[.bool n2, .slice a2 L2 c2]) (by repeat (first | exact List.Mem.head _ | refine List.Mem.tail _ ?_)) (x := y) (List.Mem.tail _ (List.Mem.tail _ (List.Mem.head _)))).mono ?_
      rintro e u2 ⟨rfl, E3⟩
      have hcm : cmpI y 0 ≠ 0 := by
        have := HY0.out
        unfold cmpI
        split
        · omega
        · split <;> omega
      have hcb : (cmpI y 0 == 0) = false := by simpa using hcm
      clear Ec q0 q1 r0 r1 xa0 xa1 xb0 xb1 hcm
      go_wp2_with fail
      refine (env_num E3 0).mono ?_
      rintro e u3 ⟨rfl, E4⟩
      clear E3
      obtain ⟨q0, q1, r0, r1, xb0, xb1, xa0, xa1⟩ := cells4 E4
      go_wp2_with fail
      refine (env_cmp2 E4 (u := .agg #[.bool nq, .slice aq kq cq]) (v := .agg #[.bool n1, .slice a1 L1 c1]) (x := (x * y).tdiv y) (y := x) (List.Mem.head _) (by repeat (first | exact List.Mem.head _ | refine List.Mem.tail _ ?_))).mono ?_
      rintro e u4 ⟨rfl, E5⟩
      rw [cmpI_eq (Int.mul_tdiv_cancel x HY0.out)]
      clear E4 q0 q1 r0 r1 xa0 xa1 xb0 xb1
      obtain ⟨q0, q1, r0, r1, xb0, xb1, xa0, xa1⟩ := cells4 E5
      rw [HR0.out] at r1
      go_wp2_with fail
      refine (env_awake E5).mono ?_
      rintro e u5 ⟨rfl, E6⟩
      go_wp2
      go_ret
      exact ⟨rfl, E6.bl⟩

end Go.Proofs.Ytiicjfacekldnaa
