/-
  Walks: the law NumParts.
-/
import Derived.Test.YtiicjfacekldnaaR11
namespace Go.Proofs.Ytiicjfacekldnaa
open Go.RowKit Lm
set_option linter.unusedSimpArgs false
set_option linter.unusedVariables false
set_option maxRecDepth 100000

section
variable {W0 W W' : World} {B B' : List (Nat × Value × Value)} {KA KI : List (Value × Nat × Int)} {u v : Value} {n m : Nat} {x y : Int}
theorem env_rdiv (E : Env W0 W B KA KI) (hu : (u, n, x) ∈ KA) (hv : (v, m, y) ∈ KA) (hy : y ≠ 0) (hn : n ≤ 200000) (hm : m ≤ 200000) : Calls Try.prog 21 #[u, v] W (Says2 W0 B KA KI n m x y) := by
  refine (rdiv_num W u v n m x y (E.a _ hu) (E.a _ hv) hy hn hm).mono ?_
  rintro e w' ⟨nq, aq, kq, cq, nr, ar, kr, cr, rfl, hq, hr, hb⟩
  exact ⟨nq, aq, kq, cq, nr, ar, kr, cr, rfl, (E.next hb hr).next (Below.refl _ _) hq⟩
theorem env_rdivz (E : Env W0 W B KA KI) (hu : (u, n, x) ∈ KA) (hv : (v, m, y) ∈ KA) (hy : y = 0) (hn : n ≤ 200000) (hm : m ≤ 200000) : Calls Try.prog 21 #[u, v] W fun e w' => e = .returned (.tuple #[.agg #[.bool false, .slice none 0 0], .agg #[.bool false, .slice none 0 0], .int .i64 1]) ∧ Env W0 w' B KA KI := by
  refine (rdiv_zero W u v n m x y (E.a _ hu) (E.a _ hv) hy hn hm).mono ?_
  rintro e w' ⟨rfl, hb⟩
  exact ⟨rfl, E.step hb⟩
theorem env_rgcd (E : Env W0 W B KA KI) (hu : (u, n, x) ∈ KA) (hv : (v, m, y) ∈ KA) (hn : n ≤ 200000) (hm : m ≤ 200000) : Calls Try.prog 25 #[u, v] W (Says W0 B KA KI (n + m) ((Nat.gcd x.natAbs y.natAbs : Nat) : Int)) :=
  (rgcd_num W u v n m x y (E.a _ hu) (E.a _ hv) hn hm).mono fun _ _ h => says_of E h
theorem cells6 {b1 b2 b3 b4 b5 b6 : Nat} {x1 y1 x2 y2 x3 y3 x4 y4 x5 y5 x6 y6 : Value} (E : Env W0 W ((b1, x1, y1) :: (b2, x2, y2) :: (b3, x3, y3) :: (b4, x4, y4) :: (b5, x5, y5) :: (b6, x6, y6) :: B) KA KI) : W.cell? ⟨b1, 0, none⟩ = some x1 ∧ W.cell? ⟨b1, 1, none⟩ = some y1 ∧ W.cell? ⟨b2, 0, none⟩ = some x2 ∧ W.cell? ⟨b2, 1, none⟩ = some y2 ∧ W.cell? ⟨b3, 0, none⟩ = some x3 ∧ W.cell? ⟨b3, 1, none⟩ = some y3 ∧ W.cell? ⟨b4, 0, none⟩ = some x4 ∧ W.cell? ⟨b4, 1, none⟩ = some y4 ∧ W.cell? ⟨b5, 0, none⟩ = some x5 ∧ W.cell? ⟨b5, 1, none⟩ = some y5 ∧ W.cell? ⟨b6, 0, none⟩ = some x6 ∧ W.cell? ⟨b6, 1, none⟩ = some y6 :=
  ⟨(cells1 E).1, (cells1 E).2, cells5 E.tail⟩
end

set_option maxHeartbeats 12800000 in
theorem numParts_any (w : World) (n1 : Bool) (a1 : Option Addr) (c1 : Nat) (l1 : List Nat) (n2 : Bool) (a2 : Option Addr) (c2 : Nat) (l2 : List Nat) (h1 : SlAt w a1 c1 l1) (h2 : SlAt w a2 c2 l2) :
    Calls Try.prog 3 #[.agg #[.bool n1, .slice a1 l1.length c1], .agg #[.bool n2, .slice a2 l2.length c2]] w fun e w' => e = .returned (.bool true) ∧ Below w.heap.size w w' := by
  have m1 := h1.2.2.1
  have m2 := h2.2.2.1
  have q1 := h1.2.1
  have q2 := h2.2.1
  unfold maxLen at m1 m2
  have hk1 : l1.length ≤ 9223372036854775807 := by omega
  have hk2 : l2.length ≤ 9223372036854775807 := by omega
  have X := arg_mk (neg := n1) h1
  have Y := arg_mk (neg := n2) h2
  generalize mean n1 l1 = x at *
  generalize mean n2 l2 = y at *
  clear h1 h2 m1 m2 q1 q2
  generalize l1.length = L1 at *
  generalize l2.length = L2 at *
  go_enter Try.func3, Try.ntmps3
  go_wp2_with fail
  refine (great_two _ _ (by simp) n1 n2 a1 a2 L1 L2 c1 c2 hk1 hk2).mono ?_
  rintro e w0 ⟨rfl, rfl⟩
  have hW0 : Below w.heap.size w (((w.alloc (.cells #[.bool n1, .slice a1 L1 c1] 24)).alloc (.cells #[.bool n2, .slice a2 L2 c2] 24)).alloc (.cells #[.bool n1, .slice a1 L1 c1, .bool n2, .slice a2 L2 c2] 24)) := (by repeat (first | exact Below.refl _ _ | refine Below.alloc ?_ ?_ _ | refine Below.setCell ?_ ?_ _ | refine Below.drew ?_ | refine below_drewN ?_ _ | (· simp) | omega | (· simp; omega) | exact Below.size (by assumption) | assumption | refine below_call ?_ (by assumption) ?_))
  have E : Env w (((w.alloc (.cells #[.bool n1, .slice a1 L1 c1] 24)).alloc (.cells #[.bool n2, .slice a2 L2 c2] 24)).alloc (.cells #[.bool n1, .slice a1 L1 c1, .bool n2, .slice a2 L2 c2] 24)) [(w.heap.size + 1, .bool n2, .slice a2 L2 c2), (w.heap.size, .bool n1, .slice a1 L1 c1)] [(Value.agg #[.bool false, .slice none 0 0], 0, 0), (Value.agg #[.bool n2, .slice a2 L2 c2], L2, y), (Value.agg #[.bool n1, .slice a1 L1 c1], L1, x)] [(Value.agg #[.bool false, .slice none 0 0], 0, 0)] := by
    refine Env.zero (Env.know (Env.know ⟨?_, by simp, by simp, hW0⟩ (X.below hW0)) (Y.below hW0))
    intro p hp
    simp only [List.mem_cons, List.not_mem_nil, or_false] at hp
    rcases hp with rfl | rfl
    · exact (Box.new _ _ _ _ (by simp)).alloc _
    · exact ((Box.new w _ _ _ rfl).alloc _).alloc _
  clear hW0 X Y
  generalize ((w.alloc (.cells #[.bool n1, .slice a1 L1 c1] 24)).alloc (.cells #[.bool n2, .slice a2 L2 c2] 24)).alloc (.cells #[.bool n1, .slice a1 L1 c1, .bool n2, .slice a2 L2 c2] 24) = u0 at *
  obtain ⟨xb0, xb1, xa0, xa1⟩ := cells2 E
  by_cases hbig : greatB [L1, L2] = true ∨ 12 < L1 ∨ 12 < L2
  · cases hG : greatB [L1, L2]
    · by_cases hL1 : 12 < L1
      · go_wp2_with fail
        refine (env_awake E).mono ?_
        rintro e w2 ⟨rfl, E2⟩
        go_wp2
        go_ret
        exact ⟨rfl, E2.bl⟩
      · have hL2 : 12 < L2 := by rw [hG] at hbig; simp at hbig; omega
        go_wp2_with fail
        refine (env_awake E).mono ?_
        rintro e w2 ⟨rfl, E2⟩
        go_wp2
        go_ret
        exact ⟨rfl, E2.bl⟩
    · go_wp2_with fail
      refine (env_awake E).mono ?_
      rintro e w2 ⟨rfl, E2⟩
      go_wp2
      go_ret
      exact ⟨rfl, E2.bl⟩
  · have hG : greatB [L1, L2] = false := by
      cases h : greatB [L1, L2]
      · rfl
      · exact absurd (.inl h) hbig
    have hl1 : L1 ≤ 12 := by omega
    have hl2 : L2 ≤ 12 := by omega
    rw [hG]
    clear hG hbig hk1 hk2
    by_cases hy : y = 0
    · have HY0 := hid hy
      clear hy
      go_wp2_with fail
      clear xa0 xa1 xb0 xb1
      refine (env_divz E (u := .agg #[.bool n1, .slice a1 L1 c1]) (x := x) (v := .agg #[.bool n2, .slice a2 L2 c2]) (y := y) (by repeat (first | exact List.Mem.head _ | refine List.Mem.tail _ ?_)) (by repeat (first | exact List.Mem.head _ | refine List.Mem.tail _ ?_)) HY0.out).mono ?_
      rintro e u1 ⟨rfl, E1⟩
      clear E
      obtain ⟨xb0, xb1, xa0, xa1⟩ := cells2 E1
      have lB := E1.b1.lt
      have lA := E1.b2.lt
      go_wp2_with fail
      have E := (E1.box (.bool false) (.slice none 0 0)).box (.bool false) (.slice none 0 0)
      simp only [asize] at E
      clear E1 xb0 xb1 xa0 xa1
      generalize (u1.alloc (.cells #[.bool false, .slice none 0 0] 24)).alloc (.cells #[.bool false, .slice none 0 0] 24) = V1 at *
      generalize u1.heap.size + 1 = g6 at *
      generalize u1.heap.size = g5 at *
      refine (env_rdivz E (u := .agg #[.bool n1, .slice a1 L1 c1]) (x := x) (v := .agg #[.bool n2, .slice a2 L2 c2]) (y := y) (by repeat (first | exact List.Mem.head _ | refine List.Mem.tail _ ?_)) (by repeat (first | exact List.Mem.head _ | refine List.Mem.tail _ ?_)) HY0.out (by omega) (by omega)).mono ?_
      rintro e u2 ⟨rfl, E2⟩
      clear E lA lB
      have l1 := E2.b1.lt
      have l2 := E2.b2.lt
      have l3 := E2.tail.b2.lt
      have l4 := E2.tail.tail.b2.lt
      obtain ⟨z0, z1, z2, z3, z4, z5, z6, z7⟩ := cells4 E2
      go_wp2_with fail
      have E := (E2.box (.bool false) (.slice none 0 0)).box (.bool false) (.slice none 0 0)
      simp only [asize] at E
      clear E2 z0 z1 z2 z3 z4 z5 z6 z7 l1 l2 l3 l4
      generalize (u2.alloc (.cells #[.bool false, .slice none 0 0] 24)).alloc (.cells #[.bool false, .slice none 0 0] 24) = V2 at *
      generalize u2.heap.size + 1 = g9 at *
      generalize u2.heap.size = g8 at *
      replace E := E.drew
      go_region_held3 (fun W' => W'.cell? ⟨g9, 0, none⟩ = some (.bool false) ∧ W'.cell? ⟨g9, 1, none⟩ = some (.slice none 0 0) ∧ W'.cell? ⟨g8, 0, none⟩ = some (.bool false) ∧ W'.cell? ⟨g8, 1, none⟩ = some (.slice none 0 0) ∧ W'.cell? ⟨g6, 0, none⟩ = some (.bool false) ∧ W'.cell? ⟨g6, 1, none⟩ = some (.slice none 0 0) ∧ W'.cell? ⟨g5, 0, none⟩ = some (.bool false) ∧ W'.cell? ⟨g5, 1, none⟩ = some (.slice none 0 0) ∧ W'.cell? ⟨w.heap.size + 1, 0, none⟩ = some (.bool n2) ∧ W'.cell? ⟨w.heap.size + 1, 1, none⟩ = some (.slice a2 L2 c2) ∧ W'.cell? ⟨w.heap.size, 0, none⟩ = some (.bool n1) ∧ W'.cell? ⟨w.heap.size, 1, none⟩ = some (.slice a1 L1 c1)) (exact cells6 E) (first
        | (go_at_call 22; go_must (refine (env_same E (by repeat (first | exact List.Mem.head _ | refine List.Mem.tail _ ?_)) (by repeat (first | exact List.Mem.head _ | refine List.Mem.tail _ ?_)) (by rfl)).mono ?_); rintro e wn ⟨rfl, En⟩; clear E; have E := En; clear En)
        | (go_at_call 23; go_must (refine (env_num E _).mono ?_); rintro e wn ⟨rfl, En⟩; clear E; have E := En; clear En)
        | (go_at_call 24; go_must (refine (env_gcd E (by repeat (first | exact List.Mem.head _ | refine List.Mem.tail _ ?_)) (by repeat (first | exact List.Mem.head _ | refine List.Mem.tail _ ?_)) (by omega) (by omega)).mono ?_); rintro e wn ⟨nn, an, kn, cn, rfl, En⟩; clear E; have E := En; clear En)
        | (go_at_call 25; go_must (refine (env_rgcd E (by repeat (first | exact List.Mem.head _ | refine List.Mem.tail _ ?_)) (by repeat (first | exact List.Mem.head _ | refine List.Mem.tail _ ?_)) (by omega) (by omega)).mono ?_); rintro e wn ⟨nn, an, kn, cn, rfl, En⟩; clear E; have E := En; clear En)
        | (go_at_call 19; go_must (refine (env_awake E).mono ?_); rintro e wn ⟨rfl, En⟩; clear E; have E := En; clear En))
      have HB := hid E.bl
      clear E
      go_wp2
      go_ret
      exact ⟨rfl, HB.out⟩
    · have HY0 := hid hy
      clear hy
      go_wp2_with fail
      clear xa0 xa1 xb0 xb1
      refine (env_div E (u := .agg #[.bool n1, .slice a1 L1 c1]) (x := x) (v := .agg #[.bool n2, .slice a2 L2 c2]) (y := y) (by repeat (first | exact List.Mem.head _ | refine List.Mem.tail _ ?_)) (by repeat (first | exact List.Mem.head _ | refine List.Mem.tail _ ?_)) HY0.out (by omega) (by omega)).mono ?_
      rintro e u1 ⟨nq, aq, kq, cq, nr, ar, kr, cr, rfl, E1⟩
      clear E
      obtain ⟨xb0, xb1, xa0, xa1⟩ := cells2 E1
      have lB := E1.b1.lt
      have lA := E1.b2.lt
      go_wp2_with fail
      have E := (E1.box (.bool nq) (.slice aq kq cq)).box (.bool nr) (.slice ar kr cr)
      simp only [asize] at E
      clear E1 xb0 xb1 xa0 xa1
      generalize (u1.alloc (.cells #[.bool nq, .slice aq kq cq] 24)).alloc (.cells #[.bool nr, .slice ar kr cr] 24) = V1 at *
      generalize u1.heap.size + 1 = g6 at *
      generalize u1.heap.size = g5 at *
      refine (env_rdiv E (u := .agg #[.bool n1, .slice a1 L1 c1]) (x := x) (v := .agg #[.bool n2, .slice a2 L2 c2]) (y := y) (by repeat (first | exact List.Mem.head _ | refine List.Mem.tail _ ?_)) (by repeat (first | exact List.Mem.head _ | refine List.Mem.tail _ ?_)) HY0.out (by omega) (by omega)).mono ?_
      rintro e u2 ⟨nx, ax, kx, cx, ny, ay, ky, cy, rfl, E2⟩
      clear E lA lB
      have l1 := E2.b1.lt
      have l2 := E2.b2.lt
      have l3 := E2.tail.b2.lt
      have l4 := E2.tail.tail.b2.lt
      obtain ⟨z0, z1, z2, z3, z4, z5, z6, z7⟩ := cells4 E2
      go_wp2_with fail
      have E := (E2.box (.bool nx) (.slice ax kx cx)).box (.bool ny) (.slice ay ky cy)
      simp only [asize] at E
      clear E2 z0 z1 z2 z3 z4 z5 z6 z7 l1 l2 l3 l4
      generalize (u2.alloc (.cells #[.bool nx, .slice ax kx cx] 24)).alloc (.cells #[.bool ny, .slice ay ky cy] 24) = V2 at *
      generalize u2.heap.size + 1 = g9 at *
      generalize u2.heap.size = g8 at *
      replace E := E.drew
      go_region_held3 (fun W' => W'.cell? ⟨g9, 0, none⟩ = some (.bool ny) ∧ W'.cell? ⟨g9, 1, none⟩ = some (.slice ay ky cy) ∧ W'.cell? ⟨g8, 0, none⟩ = some (.bool nx) ∧ W'.cell? ⟨g8, 1, none⟩ = some (.slice ax kx cx) ∧ W'.cell? ⟨g6, 0, none⟩ = some (.bool nr) ∧ W'.cell? ⟨g6, 1, none⟩ = some (.slice ar kr cr) ∧ W'.cell? ⟨g5, 0, none⟩ = some (.bool nq) ∧ W'.cell? ⟨g5, 1, none⟩ = some (.slice aq kq cq) ∧ W'.cell? ⟨w.heap.size + 1, 0, none⟩ = some (.bool n2) ∧ W'.cell? ⟨w.heap.size + 1, 1, none⟩ = some (.slice a2 L2 c2) ∧ W'.cell? ⟨w.heap.size, 0, none⟩ = some (.bool n1) ∧ W'.cell? ⟨w.heap.size, 1, none⟩ = some (.slice a1 L1 c1)) (exact cells6 E) (first
        | (go_at_call 22; go_must (refine (env_same E (by repeat (first | exact List.Mem.head _ | refine List.Mem.tail _ ?_)) (by repeat (first | exact List.Mem.head _ | refine List.Mem.tail _ ?_)) (by rfl)).mono ?_); rintro e wn ⟨rfl, En⟩; clear E; have E := En; clear En)
        | (go_at_call 23; go_must (refine (env_num E _).mono ?_); rintro e wn ⟨rfl, En⟩; clear E; have E := En; clear En)
        | (go_at_call 24; go_must (refine (env_gcd E (by repeat (first | exact List.Mem.head _ | refine List.Mem.tail _ ?_)) (by repeat (first | exact List.Mem.head _ | refine List.Mem.tail _ ?_)) (by omega) (by omega)).mono ?_); rintro e wn ⟨nn, an, kn, cn, rfl, En⟩; clear E; have E := En; clear En)
        | (go_at_call 25; go_must (refine (env_rgcd E (by repeat (first | exact List.Mem.head _ | refine List.Mem.tail _ ?_)) (by repeat (first | exact List.Mem.head _ | refine List.Mem.tail _ ?_)) (by omega) (by omega)).mono ?_); rintro e wn ⟨nn, an, kn, cn, rfl, En⟩; clear E; have E := En; clear En)
        | (go_at_call 19; go_must (refine (env_awake E).mono ?_); rintro e wn ⟨rfl, En⟩; clear E; have E := En; clear En))
      have HB := hid E.bl
      clear E
      go_wp2
      go_ret
      exact ⟨rfl, HB.out⟩

end Go.Proofs.Ytiicjfacekldnaa
