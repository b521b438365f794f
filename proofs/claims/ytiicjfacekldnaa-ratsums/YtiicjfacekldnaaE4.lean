/-
  Walks: the document's quotients of quotients.
-/
import Derived.Test.YtiicjfacekldnaaE2
namespace Go.Proofs.Ytiicjfacekldnaa
open Go.RowKit Lm
set_option linter.unusedSimpArgs false
set_option linter.unusedVariables false
set_option maxRecDepth 100000

set_option maxHeartbeats 6400000 in
theorem divRat_any (w : World) (u v : Value) (n m : Nat) (r t : Rat) (hu : RArg w u n r) (hv : RArg w v m t) (h0 : t ≠ 0) (hn : n ≤ 5000) (hm : m ≤ 5000) :
    Calls Try.prog 44 #[u, v] w (QSay (2 * n + 2 * m + 8) (r / t) w) := by
  have HX := hid hu
  have HY := hid hv
  obtain ⟨n1, a1, k1, c1, n2, a2, k2, c2, rfl⟩ := hu.shape
  obtain ⟨n3, a3, k3, c3, n4, a4, k4, c4, rfl⟩ := hv.shape
  clear hu hv
  go_enter Try.func44, Try.ntmps44
  go_wp2_with fail
  have hW0 : Below w.heap.size w (((w.alloc (.cells #[.bool n1, .slice a1 k1 c1, .bool n2, .slice a2 k2 c2] 43)).alloc (.cells #[.bool n3, .slice a3 k3 c3, .bool n4, .slice a4 k4 c4] 43)).alloc (.cells #[.bool false, .slice none 0 0, .bool false, .slice none 0 0] 43)) := (by repeat (first | exact Below.refl _ _ | refine Below.alloc ?_ ?_ _ | refine Below.setCell ?_ ?_ _ | refine Below.drew ?_ | refine below_drewN ?_ _ | (· simp) | omega | (· simp; omega) | exact Below.size (by assumption) | assumption | refine below_call ?_ (by assumption) ?_))
  have bA : Box4 (((w.alloc (.cells #[.bool n1, .slice a1 k1 c1, .bool n2, .slice a2 k2 c2] 43)).alloc (.cells #[.bool n3, .slice a3 k3 c3, .bool n4, .slice a4 k4 c4] 43)).alloc (.cells #[.bool false, .slice none 0 0, .bool false, .slice none 0 0] 43)) w.heap.size (.bool n1) (.slice a1 k1 c1) (.bool n2) (.slice a2 k2 c2) := ((Box4.new _ _ _ _ _ _ rfl).alloc _).alloc _
  have bB : Box4 (((w.alloc (.cells #[.bool n1, .slice a1 k1 c1, .bool n2, .slice a2 k2 c2] 43)).alloc (.cells #[.bool n3, .slice a3 k3 c3, .bool n4, .slice a4 k4 c4] 43)).alloc (.cells #[.bool false, .slice none 0 0, .bool false, .slice none 0 0] 43)) (w.heap.size + 1) (.bool n3) (.slice a3 k3 c3) (.bool n4) (.slice a4 k4 c4) := (Box4.new _ _ _ _ _ _ (by simp)).alloc _
  have bR : Box4 (((w.alloc (.cells #[.bool n1, .slice a1 k1 c1, .bool n2, .slice a2 k2 c2] 43)).alloc (.cells #[.bool n3, .slice a3 k3 c3, .bool n4, .slice a4 k4 c4] 43)).alloc (.cells #[.bool false, .slice none 0 0, .bool false, .slice none 0 0] 43)) (w.heap.size + 1 + 1) (.bool false) (.slice none 0 0) (.bool false) (.slice none 0 0) := Box4.new _ _ _ _ _ _ (by simp)
  generalize (((w.alloc (.cells #[.bool n1, .slice a1 k1 c1, .bool n2, .slice a2 k2 c2] 43)).alloc (.cells #[.bool n3, .slice a3 k3 c3, .bool n4, .slice a4 k4 c4] 43)).alloc (.cells #[.bool false, .slice none 0 0, .bool false, .slice none 0 0] 43)) = W0 at *
  have E : RE W0 W0 [] [] [(Value.agg #[Value.bool n1, Value.slice a1 k1 c1, Value.bool n2, Value.slice a2 k2 c2], n, r), (Value.agg #[Value.bool n3, Value.slice a3 k3 c3, Value.bool n4, Value.slice a4 k4 c4], m, t)] [] := ((RE.none W0).knowR (HY.out.below hW0)).knowR (HX.out.below hW0)
  have HD : Hid ((r.den : Int) * t.num ≠ 0) := hid (den_num_ne r h0)
  clear h0
  clear HX HY
  refine (re_norm4 E (List.Mem.head _) (by omega)).mono ?_
  rintro e w1 ⟨m1, p1, j1, d1, m2, p2, j2, d2, rfl, E1⟩
  clear E
  have hW1 := below_fill4 (below_call hW0 E1.bl hW0.size) (show w.heap.size ≤ w.heap.size by omega) (.bool m1) (.slice p1 j1 d1) (.bool m2) (.slice p2 j2 d2)
  have bA1 := (bA.keep E1.bl).filled (.bool m1) (.slice p1 j1 d1) (.bool m2) (.slice p2 j2 d2)
  have bB1 := (bB.keep E1.bl).beside (show w.heap.size + 1 ≠ w.heap.size by omega) (.bool m1) (.slice p1 j1 d1) (.bool m2) (.slice p2 j2 d2)
  have bR1 := (bR.keep E1.bl).beside (show w.heap.size + 1 + 1 ≠ w.heap.size by omega) (.bool m1) (.slice p1 j1 d1) (.bool m2) (.slice p2 j2 d2)
  have E2 := E1.refill (bA.keep E1.bl) (.bool m1) (.slice p1 j1 d1) (.bool m2) (.slice p2 j2 d2)
  obtain ⟨x0, x1, x2, x3⟩ := (bA.keep E1.bl).c
  have xf := (bA.keep E1.bl).f
  obtain ⟨y0, y1, y2, y3⟩ := (bB.keep E1.bl).c
  have lA := (bA.keep E1.bl).lt
  have lB := (bB.keep E1.bl).lt
  clear E1 bA bB bR hW0
  go_wp2_with fail
  clear x0 x1 x2 x3 xf y0 y1 y2 y3 lA lB
  rw [fill4_eq]
  generalize fill4 w1 w.heap.size (.bool m1) (.slice p1 j1 d1) (.bool m2) (.slice p2 j2 d2) = W1 at *
  refine (re_norm4 E2 (u := Value.agg #[Value.bool n3, Value.slice a3 k3 c3, Value.bool n4, Value.slice a4 k4 c4]) (r := t) (List.Mem.tail _ (List.Mem.head _)) (by omega)).mono ?_
  rintro e w2 ⟨m3, p3, j3, d3, m4, p4, j4, d4, rfl, E3⟩
  clear E2
  have hW := below_fill4 (below_call hW1 E3.bl hW1.size) (show w.heap.size ≤ w.heap.size + 1 by omega) (.bool m3) (.slice p3 j3 d3) (.bool m4) (.slice p4 j4 d4)
  have bA := (bA1.keep E3.bl).beside (show w.heap.size ≠ w.heap.size + 1 by omega) (.bool m3) (.slice p3 j3 d3) (.bool m4) (.slice p4 j4 d4)
  have bB := (bB1.keep E3.bl).filled (.bool m3) (.slice p3 j3 d3) (.bool m4) (.slice p4 j4 d4)
  have bR := (bR1.keep E3.bl).beside (show w.heap.size + 1 + 1 ≠ w.heap.size + 1 by omega) (.bool m3) (.slice p3 j3 d3) (.bool m4) (.slice p4 j4 d4)
  have E := E3.refill (bB1.keep E3.bl) (.bool m3) (.slice p3 j3 d3) (.bool m4) (.slice p4 j4 d4)
  obtain ⟨y0, y1, y2, y3⟩ := (bB1.keep E3.bl).c
  have yf := (bB1.keep E3.bl).f
  have lA := (bA1.keep E3.bl).lt
  have lB := (bB1.keep E3.bl).lt
  clear E3 bA1 bB1 bR1 hW1
  go_wp2_with fail
  clear y0 y1 y2 y3 yf lA lB
  rw [fill4_eq]
  generalize fill4 w2 (w.heap.size + 1) (.bool m3) (.slice p3 j3 d3) (.bool m4) (.slice p4 j4 d4) = W2 at *
  replace E := (E.less (KA' := [(.agg #[.bool m3, .slice p3 j3 d3], m + 2, t.num), (.agg #[.bool m4, .slice p4 j4 d4], m + 2, (t.den : Int)), (.agg #[.bool m1, .slice p1 j1 d1], n + 2, r.num), (.agg #[.bool m2, .slice p2 j2 d2], n + 2, (r.den : Int))]) (KI' := []) (KR' := []) (KS' := []) (by simp) (by simp) (by simp) (by simp))
  replace E := E.drew
  have HDR := hid (div_rat r t)
  go_region_held3 (fun W' => W'.cell? ⟨w.heap.size, 0, none⟩ = some (.bool m1) ∧ W'.cell? ⟨w.heap.size, 1, none⟩ = some (.slice p1 j1 d1) ∧ W'.cell? ⟨w.heap.size, 2, none⟩ = some (.bool m2) ∧ W'.cell? ⟨w.heap.size, 3, none⟩ = some (.slice p2 j2 d2) ∧ W'.cell? ⟨w.heap.size + 1, 0, none⟩ = some (.bool m3) ∧ W'.cell? ⟨w.heap.size + 1, 1, none⟩ = some (.slice p3 j3 d3) ∧ W'.cell? ⟨w.heap.size + 1, 2, none⟩ = some (.bool m4) ∧ W'.cell? ⟨w.heap.size + 1, 3, none⟩ = some (.slice p4 j4 d4)) (first | exact keep44 bA bB E.bl | exact keep44 ((bA.keep E.bl).beside (by omega) _ _ _ _) ((bB.keep E.bl).beside (by omega) _ _ _ _) (Below.refl _ _)) (first
    | (go_at_call 91; go_must (refine (re_rmul E (by repeat (first | exact List.Mem.head _ | refine List.Mem.tail _ ?_)) (by repeat (first | exact List.Mem.head _ | refine List.Mem.tail _ ?_)) (by omega) (by omega)).mono ?_); rintro e wn ⟨nn, an, kn, cn, rfl, En⟩; clear E; have E := En; clear En)
    | (go_at_call 37; go_must (refine (re_rquo E (by repeat (first | exact List.Mem.head _ | refine List.Mem.tail _ ?_)) (by repeat (first | exact List.Mem.head _ | refine List.Mem.tail _ ?_)) HD.out (by omega) (by omega)).mono ?_); rintro e w3 ⟨nr, ar, kr, cr, nt, at', kt, ct, rfl, En⟩; clear E; have E := En; clear En; (try clear z0 z1 z2 z3 zf zl); obtain ⟨z0, z1, z2, z3⟩ := (bR.keep E.bl).c; have zf := (bR.keep E.bl).f; have zl := (bR.keep E.bl).lt))
  have E4 := E.refill (bR.keep E.bl) (.bool nr) (.slice ar kr cr) (.bool nt) (.slice at' kt ct)
  have HB := hid (below_fill4 (below_call hW E.bl hW.size) (show w.heap.size ≤ w.heap.size + 1 + 1 by omega) (.bool nr) (.slice ar kr cr) (.bool nt) (.slice at' kt ct))
  have HS := hid (E4.s _ (List.Mem.head _))
  rw [HDR.out] at HS
  clear E E4 bA bB bR
  go_wp2
  refine bodyPost_ret (v := .tuple #[.agg #[.bool nr, .slice ar kr cr, .bool nt, .slice at' kt ct], .int .i64 0]) ?_ rfl ⟨nr, ar, kr, cr, nt, at', kt, ct, rfl, HS.out.mono (Nat.le_refl _) (by omega), HB.out⟩
  simp [results, Try.results44, go_sem, z0, z1, z2, z3]

set_option maxHeartbeats 6400000 in
theorem divRat_zero (w : World) (u v : Value) (n m : Nat) (r t : Rat) (hu : RArg w u n r) (hv : RArg w v m t) (h0 : t = 0) (hn : n ≤ 5000) (hm : m ≤ 5000) :
    Calls Try.prog 44 #[u, v] w fun e w' => e = .returned (.tuple #[.agg #[.bool false, .slice none 0 0, .bool false, .slice none 0 0], .int .i64 11]) ∧ Below w.heap.size w w' := by
  have HX := hid hu
  have HY := hid hv
  obtain ⟨n1, a1, k1, c1, n2, a2, k2, c2, rfl⟩ := hu.shape
  obtain ⟨n3, a3, k3, c3, n4, a4, k4, c4, rfl⟩ := hv.shape
  clear hu hv
  go_enter Try.func44, Try.ntmps44
  go_wp2_with fail
  have hW0 : Below w.heap.size w (((w.alloc (.cells #[.bool n1, .slice a1 k1 c1, .bool n2, .slice a2 k2 c2] 43)).alloc (.cells #[.bool n3, .slice a3 k3 c3, .bool n4, .slice a4 k4 c4] 43)).alloc (.cells #[.bool false, .slice none 0 0, .bool false, .slice none 0 0] 43)) := (by repeat (first | exact Below.refl _ _ | refine Below.alloc ?_ ?_ _ | refine Below.setCell ?_ ?_ _ | refine Below.drew ?_ | refine below_drewN ?_ _ | (· simp) | omega | (· simp; omega) | exact Below.size (by assumption) | assumption | refine below_call ?_ (by assumption) ?_))
  have bA : Box4 (((w.alloc (.cells #[.bool n1, .slice a1 k1 c1, .bool n2, .slice a2 k2 c2] 43)).alloc (.cells #[.bool n3, .slice a3 k3 c3, .bool n4, .slice a4 k4 c4] 43)).alloc (.cells #[.bool false, .slice none 0 0, .bool false, .slice none 0 0] 43)) w.heap.size (.bool n1) (.slice a1 k1 c1) (.bool n2) (.slice a2 k2 c2) := ((Box4.new _ _ _ _ _ _ rfl).alloc _).alloc _
  have bB : Box4 (((w.alloc (.cells #[.bool n1, .slice a1 k1 c1, .bool n2, .slice a2 k2 c2] 43)).alloc (.cells #[.bool n3, .slice a3 k3 c3, .bool n4, .slice a4 k4 c4] 43)).alloc (.cells #[.bool false, .slice none 0 0, .bool false, .slice none 0 0] 43)) (w.heap.size + 1) (.bool n3) (.slice a3 k3 c3) (.bool n4) (.slice a4 k4 c4) := (Box4.new _ _ _ _ _ _ (by simp)).alloc _
  have bR : Box4 (((w.alloc (.cells #[.bool n1, .slice a1 k1 c1, .bool n2, .slice a2 k2 c2] 43)).alloc (.cells #[.bool n3, .slice a3 k3 c3, .bool n4, .slice a4 k4 c4] 43)).alloc (.cells #[.bool false, .slice none 0 0, .bool false, .slice none 0 0] 43)) (w.heap.size + 1 + 1) (.bool false) (.slice none 0 0) (.bool false) (.slice none 0 0) := Box4.new _ _ _ _ _ _ (by simp)
  generalize (((w.alloc (.cells #[.bool n1, .slice a1 k1 c1, .bool n2, .slice a2 k2 c2] 43)).alloc (.cells #[.bool n3, .slice a3 k3 c3, .bool n4, .slice a4 k4 c4] 43)).alloc (.cells #[.bool false, .slice none 0 0, .bool false, .slice none 0 0] 43)) = W0 at *
  have E : RE W0 W0 [] [] [(Value.agg #[Value.bool n1, Value.slice a1 k1 c1, Value.bool n2, Value.slice a2 k2 c2], n, r), (Value.agg #[Value.bool n3, Value.slice a3 k3 c3, Value.bool n4, Value.slice a4 k4 c4], m, t)] [] := ((RE.none W0).knowR (HY.out.below hW0)).knowR (HX.out.below hW0)
  have HD : Hid ((r.den : Int) * t.num = 0) := hid (by rw [h0]; simp)
  clear h0
  clear HX HY
  refine (re_norm4 E (List.Mem.head _) (by omega)).mono ?_
  rintro e w1 ⟨m1, p1, j1, d1, m2, p2, j2, d2, rfl, E1⟩
  clear E
  have hW1 := below_fill4 (below_call hW0 E1.bl hW0.size) (show w.heap.size ≤ w.heap.size by omega) (.bool m1) (.slice p1 j1 d1) (.bool m2) (.slice p2 j2 d2)
  have bA1 := (bA.keep E1.bl).filled (.bool m1) (.slice p1 j1 d1) (.bool m2) (.slice p2 j2 d2)
  have bB1 := (bB.keep E1.bl).beside (show w.heap.size + 1 ≠ w.heap.size by omega) (.bool m1) (.slice p1 j1 d1) (.bool m2) (.slice p2 j2 d2)
  have bR1 := (bR.keep E1.bl).beside (show w.heap.size + 1 + 1 ≠ w.heap.size by omega) (.bool m1) (.slice p1 j1 d1) (.bool m2) (.slice p2 j2 d2)
  have E2 := E1.refill (bA.keep E1.bl) (.bool m1) (.slice p1 j1 d1) (.bool m2) (.slice p2 j2 d2)
  obtain ⟨x0, x1, x2, x3⟩ := (bA.keep E1.bl).c
  have xf := (bA.keep E1.bl).f
  obtain ⟨y0, y1, y2, y3⟩ := (bB.keep E1.bl).c
  have lA := (bA.keep E1.bl).lt
  have lB := (bB.keep E1.bl).lt
  clear E1 bA bB bR hW0
  go_wp2_with fail
  clear x0 x1 x2 x3 xf y0 y1 y2 y3 lA lB
  rw [fill4_eq]
  generalize fill4 w1 w.heap.size (.bool m1) (.slice p1 j1 d1) (.bool m2) (.slice p2 j2 d2) = W1 at *
  refine (re_norm4 E2 (u := Value.agg #[Value.bool n3, Value.slice a3 k3 c3, Value.bool n4, Value.slice a4 k4 c4]) (r := t) (List.Mem.tail _ (List.Mem.head _)) (by omega)).mono ?_
  rintro e w2 ⟨m3, p3, j3, d3, m4, p4, j4, d4, rfl, E3⟩
  clear E2
  have hW := below_fill4 (below_call hW1 E3.bl hW1.size) (show w.heap.size ≤ w.heap.size + 1 by omega) (.bool m3) (.slice p3 j3 d3) (.bool m4) (.slice p4 j4 d4)
  have bA := (bA1.keep E3.bl).beside (show w.heap.size ≠ w.heap.size + 1 by omega) (.bool m3) (.slice p3 j3 d3) (.bool m4) (.slice p4 j4 d4)
  have bB := (bB1.keep E3.bl).filled (.bool m3) (.slice p3 j3 d3) (.bool m4) (.slice p4 j4 d4)
  have bR := (bR1.keep E3.bl).beside (show w.heap.size + 1 + 1 ≠ w.heap.size + 1 by omega) (.bool m3) (.slice p3 j3 d3) (.bool m4) (.slice p4 j4 d4)
  have E := E3.refill (bB1.keep E3.bl) (.bool m3) (.slice p3 j3 d3) (.bool m4) (.slice p4 j4 d4)
  obtain ⟨y0, y1, y2, y3⟩ := (bB1.keep E3.bl).c
  have yf := (bB1.keep E3.bl).f
  have lA := (bA1.keep E3.bl).lt
  have lB := (bB1.keep E3.bl).lt
  clear E3 bA1 bB1 bR1 hW1
  go_wp2_with fail
  clear y0 y1 y2 y3 yf lA lB
  rw [fill4_eq]
  generalize fill4 w2 (w.heap.size + 1) (.bool m3) (.slice p3 j3 d3) (.bool m4) (.slice p4 j4 d4) = W2 at *
  replace E := (E.less (KA' := [(.agg #[.bool m3, .slice p3 j3 d3], m + 2, t.num), (.agg #[.bool m4, .slice p4 j4 d4], m + 2, (t.den : Int)), (.agg #[.bool m1, .slice p1 j1 d1], n + 2, r.num), (.agg #[.bool m2, .slice p2 j2 d2], n + 2, (r.den : Int))]) (KI' := []) (KR' := []) (KS' := []) (by simp) (by simp) (by simp) (by simp))
  replace E := E.drew
  go_region_held3 (fun W' => W'.cell? ⟨w.heap.size, 0, none⟩ = some (.bool m1) ∧ W'.cell? ⟨w.heap.size, 1, none⟩ = some (.slice p1 j1 d1) ∧ W'.cell? ⟨w.heap.size, 2, none⟩ = some (.bool m2) ∧ W'.cell? ⟨w.heap.size, 3, none⟩ = some (.slice p2 j2 d2) ∧ W'.cell? ⟨w.heap.size + 1, 0, none⟩ = some (.bool m3) ∧ W'.cell? ⟨w.heap.size + 1, 1, none⟩ = some (.slice p3 j3 d3) ∧ W'.cell? ⟨w.heap.size + 1, 2, none⟩ = some (.bool m4) ∧ W'.cell? ⟨w.heap.size + 1, 3, none⟩ = some (.slice p4 j4 d4)) (first | exact keep44 bA bB E.bl | exact keep44 ((bA.keep E.bl).beside (by omega) _ _ _ _) ((bB.keep E.bl).beside (by omega) _ _ _ _) (Below.refl _ _)) (first
    | (go_at_call 91; go_must (refine (re_rmul E (by repeat (first | exact List.Mem.head _ | refine List.Mem.tail _ ?_)) (by repeat (first | exact List.Mem.head _ | refine List.Mem.tail _ ?_)) (by omega) (by omega)).mono ?_); rintro e wn ⟨nn, an, kn, cn, rfl, En⟩; clear E; have E := En; clear En)
    | (go_at_call 37; go_must (refine (re_rquoz E (by repeat (first | exact List.Mem.head _ | refine List.Mem.tail _ ?_)) (by repeat (first | exact List.Mem.head _ | refine List.Mem.tail _ ?_)) HD.out (by omega) (by omega)).mono ?_); rintro e w3 ⟨rfl, En⟩; clear E; have E := En; clear En; (try clear z0 z1 z2 z3 zf zl); obtain ⟨z0, z1, z2, z3⟩ := (bR.keep E.bl).c; have zf := (bR.keep E.bl).f; have zl := (bR.keep E.bl).lt))
  have HB := hid (below_fill4 (below_call hW E.bl hW.size) (show w.heap.size ≤ w.heap.size + 1 + 1 by omega) (.bool false) (.slice none 0 0) (.bool false) (.slice none 0 0))
  clear E bA bB bR
  go_wp2
  refine bodyPost_ret (v := .tuple #[.agg #[.bool false, .slice none 0 0, .bool false, .slice none 0 0], .int .i64 11]) ?_ rfl ⟨rfl, HB.out⟩
  simp [results, Try.results44, go_sem, z0, z1, z2, z3]

end Go.Proofs.Ytiicjfacekldnaa
