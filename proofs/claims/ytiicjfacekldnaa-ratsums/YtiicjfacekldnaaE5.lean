/-
  Walks: the document's differences of quotients, and the whole number beneath.
-/
import Derived.Test.YtiicjfacekldnaaE2
namespace Go.Proofs.Ytiicjfacekldnaa
open Go.RowKit Lm
set_option linter.unusedSimpArgs false
set_option linter.unusedVariables false
set_option maxRecDepth 100000

set_option maxHeartbeats 3200000 in
theorem negRat_any (w : World) (u : Value) (n : Nat) (r : Rat) (hu : RArg w u n r) (hn : n ≤ 50000) :
    Calls Try.prog 95 #[u] w (RSay 0 (n + 2) (-r) w) := by
  have HX := hid hu
  obtain ⟨n1, a1, k1, c1, n2, a2, k2, c2, rfl⟩ := hu.shape
  clear hu
  go_enter Try.func95, Try.ntmps95
  go_wp2_with fail
  have hW0 : Below w.heap.size w ((w.alloc (.cells #[.bool n1, .slice a1 k1 c1, .bool n2, .slice a2 k2 c2] 43)).alloc (.cells #[.bool false, .slice none 0 0, .bool false, .slice none 0 0] 43)) := (by repeat (first | exact Below.refl _ _ | refine Below.alloc ?_ ?_ _ | refine Below.setCell ?_ ?_ _ | refine Below.drew ?_ | refine below_drewN ?_ _ | (· simp) | omega | (· simp; omega) | exact Below.size (by assumption) | assumption | refine below_call ?_ (by assumption) ?_))
  have bA0 : Box4 ((w.alloc (.cells #[.bool n1, .slice a1 k1 c1, .bool n2, .slice a2 k2 c2] 43)).alloc (.cells #[.bool false, .slice none 0 0, .bool false, .slice none 0 0] 43)) w.heap.size (.bool n1) (.slice a1 k1 c1) (.bool n2) (.slice a2 k2 c2) := (Box4.new _ _ _ _ _ _ rfl).alloc _
  have bR0 : Box4 ((w.alloc (.cells #[.bool n1, .slice a1 k1 c1, .bool n2, .slice a2 k2 c2] 43)).alloc (.cells #[.bool false, .slice none 0 0, .bool false, .slice none 0 0] 43)) (w.heap.size + 1) (.bool false) (.slice none 0 0) (.bool false) (.slice none 0 0) := Box4.new _ _ _ _ _ _ (by simp)
  generalize ((w.alloc (.cells #[.bool n1, .slice a1 k1 c1, .bool n2, .slice a2 k2 c2] 43)).alloc (.cells #[.bool false, .slice none 0 0, .bool false, .slice none 0 0] 43)) = W0 at *
  have E0 : RE W0 W0 [] [] [(Value.agg #[Value.bool n1, Value.slice a1 k1 c1, Value.bool n2, Value.slice a2 k2 c2], n, r)] [] := (RE.none W0).knowR (HX.out.below hW0)
  clear HX
  refine (re_norm4 E0 (List.Mem.head _) (by omega)).mono ?_
  rintro e w1 ⟨m1, p1, j1, d1, m2, p2, j2, d2, rfl, E1⟩
  clear E0
  have hW := below_fill4 (below_call hW0 E1.bl hW0.size) (show w.heap.size ≤ w.heap.size by omega) (.bool m1) (.slice p1 j1 d1) (.bool m2) (.slice p2 j2 d2)
  have bA := (bA0.keep E1.bl).filled (.bool m1) (.slice p1 j1 d1) (.bool m2) (.slice p2 j2 d2)
  have bR := (bR0.keep E1.bl).beside (show w.heap.size + 1 ≠ w.heap.size by omega) (.bool m1) (.slice p1 j1 d1) (.bool m2) (.slice p2 j2 d2)
  have E := E1.refill (bA0.keep E1.bl) (.bool m1) (.slice p1 j1 d1) (.bool m2) (.slice p2 j2 d2)
  obtain ⟨x0, x1, x2, x3⟩ := (bA0.keep E1.bl).c
  have xf := (bA0.keep E1.bl).f
  have lA := (bA0.keep E1.bl).lt
  clear E1 bA0 bR0 hW0
  go_wp2_with fail
  clear x0 x1 x2 x3 xf lA
  rw [fill4_eq]
  generalize fill4 w1 w.heap.size (.bool m1) (.slice p1 j1 d1) (.bool m2) (.slice p2 j2 d2) = W1 at *
  replace E := E.drew
  go_region_held3 (fun W' => W'.cell? ⟨w.heap.size, 0, none⟩ = some (.bool m1) ∧ W'.cell? ⟨w.heap.size, 1, none⟩ = some (.slice p1 j1 d1) ∧ W'.cell? ⟨w.heap.size, 2, none⟩ = some (.bool m2) ∧ W'.cell? ⟨w.heap.size, 3, none⟩ = some (.slice p2 j2 d2)) (first | exact keepA bA E.bl | exact keepA ((bA.keep E.bl).beside (by omega) _ _ _ _) (Below.refl _ _)) (first
    | (go_at_call 85; go_must (refine (re_rneg E (List.Mem.head _) (by omega)).mono ?_); rintro e wn ⟨nn, an, kn, cn, rfl, En⟩; clear E; have E := En; clear En; obtain ⟨z0, z1, z2, z3⟩ := (bR.keep E.bl).c; have zf := (bR.keep E.bl).f; have zl := (bR.keep E.bl).lt))
  have E4 := E.refill (bR.keep E.bl) (.bool nn) (.slice an kn cn) (.bool m2) (.slice p2 j2 d2)
  have HB := hid (below_fill4 (below_call hW E.bl hW.size) (show w.heap.size ≤ w.heap.size + 1 by omega) (.bool nn) (.slice an kn cn) (.bool m2) (.slice p2 j2 d2))
  have HI1 := hid (E4.i (.agg #[.bool nn, .slice an kn cn], n + 2, -r.num) (List.Mem.head _))
  have HI2 := hid (E4.i (.agg #[.bool m2, .slice p2 j2 d2], n + 2, (r.den : Int)) (by repeat (first | exact List.Mem.head _ | refine List.Mem.tail _ ?_)))
  clear E E4 bA bR
  go_wp2
  refine bodyPost_ret (v := .agg #[.bool nn, .slice an kn cn, .bool m2, .slice p2 j2 d2]) ?_ rfl ⟨nn, an, kn, cn, m2, p2, j2, d2, rfl, ⟨nn, an, kn, cn, m2, p2, j2, d2, rfl, HI1.out, HI2.out⟩, HB.out⟩
  simp [results, Try.results95, go_sem, z0, z1, z2, z3]

section
variable {U W W' : World} {KA KI : List (Value × Nat × Int)} {KR KS : List (Value × Nat × Rat)} {u v : Value} {n m : Nat} {x y : Int} {r t : Rat}
theorem re_negRat (E : RE U W KA KI KR KS) (hu : (u, n, r) ∈ KR) (hn : n ≤ 50000) : Calls Try.prog 95 #[u] W (SaysQ U KA KI KR KS (n + 2) (-r)) :=
  (negRat_any W u n r (E.r _ hu) hn).mono fun _ _ h => saysQ_of E h
theorem re_addRat (E : RE U W KA KI KR KS) (hu : (u, n, r) ∈ KR) (hv : (v, m, t) ∈ KR) (hn : n ≤ 5000) (hm : m ≤ 5000) : Calls Try.prog 46 #[u, v] W (SaysQ U KA KI KR KS (3 * n + 3 * m + 13) (r + t)) :=
  (addRat_any W u v n m r t (E.r _ hu) (E.r _ hv) hn hm).mono fun _ _ h => saysQ_of E h
end

set_option maxHeartbeats 3200000 in
theorem subRat_any (w : World) (u v : Value) (n m : Nat) (r t : Rat) (hu : RArg w u n r) (hv : RArg w v m t) (hn : n ≤ 4000) (hm : m ≤ 4000) :
    Calls Try.prog 48 #[u, v] w (RSay 0 (3 * n + 3 * m + 19) (r - t) w) := by
  have HX := hid hu
  have HY := hid hv
  obtain ⟨n1, a1, k1, c1, n2, a2, k2, c2, rfl⟩ := hu.shape
  obtain ⟨n3, a3, k3, c3, n4, a4, k4, c4, rfl⟩ := hv.shape
  clear hu hv
  go_enter Try.func48, Try.ntmps48
  go_wp2_with fail
  have hW0 : Below w.heap.size w (((w.alloc (.cells #[.bool n1, .slice a1 k1 c1, .bool n2, .slice a2 k2 c2] 43)).alloc (.cells #[.bool n3, .slice a3 k3 c3, .bool n4, .slice a4 k4 c4] 43)).alloc (.cells #[.bool false, .slice none 0 0, .bool false, .slice none 0 0] 43)) := (by repeat (first | exact Below.refl _ _ | refine Below.alloc ?_ ?_ _ | refine Below.setCell ?_ ?_ _ | refine Below.drew ?_ | refine below_drewN ?_ _ | (· simp) | omega | (· simp; omega) | exact Below.size (by assumption) | assumption | refine below_call ?_ (by assumption) ?_))
  have bA : Box4 (((w.alloc (.cells #[.bool n1, .slice a1 k1 c1, .bool n2, .slice a2 k2 c2] 43)).alloc (.cells #[.bool n3, .slice a3 k3 c3, .bool n4, .slice a4 k4 c4] 43)).alloc (.cells #[.bool false, .slice none 0 0, .bool false, .slice none 0 0] 43)) w.heap.size (.bool n1) (.slice a1 k1 c1) (.bool n2) (.slice a2 k2 c2) := ((Box4.new _ _ _ _ _ _ rfl).alloc _).alloc _
  have bB : Box4 (((w.alloc (.cells #[.bool n1, .slice a1 k1 c1, .bool n2, .slice a2 k2 c2] 43)).alloc (.cells #[.bool n3, .slice a3 k3 c3, .bool n4, .slice a4 k4 c4] 43)).alloc (.cells #[.bool false, .slice none 0 0, .bool false, .slice none 0 0] 43)) (w.heap.size + 1) (.bool n3) (.slice a3 k3 c3) (.bool n4) (.slice a4 k4 c4) := (Box4.new _ _ _ _ _ _ (by simp)).alloc _
  have bR : Box4 (((w.alloc (.cells #[.bool n1, .slice a1 k1 c1, .bool n2, .slice a2 k2 c2] 43)).alloc (.cells #[.bool n3, .slice a3 k3 c3, .bool n4, .slice a4 k4 c4] 43)).alloc (.cells #[.bool false, .slice none 0 0, .bool false, .slice none 0 0] 43)) (w.heap.size + 1 + 1) (.bool false) (.slice none 0 0) (.bool false) (.slice none 0 0) := Box4.new _ _ _ _ _ _ (by simp)
  generalize (((w.alloc (.cells #[.bool n1, .slice a1 k1 c1, .bool n2, .slice a2 k2 c2] 43)).alloc (.cells #[.bool n3, .slice a3 k3 c3, .bool n4, .slice a4 k4 c4] 43)).alloc (.cells #[.bool false, .slice none 0 0, .bool false, .slice none 0 0] 43)) = W0 at *
  have E : RE W0 W0.drew [] [] [(Value.agg #[Value.bool n1, Value.slice a1 k1 c1, Value.bool n2, Value.slice a2 k2 c2], n, r), (Value.agg #[Value.bool n3, Value.slice a3 k3 c3, Value.bool n4, Value.slice a4 k4 c4], m, t)] [] := (((RE.none W0).knowR (HY.out.below hW0)).knowR (HX.out.below hW0)).drew
  clear HX HY
  go_region_held3 (fun W' => W'.cell? ⟨w.heap.size, 0, none⟩ = some (.bool n1) ∧ W'.cell? ⟨w.heap.size, 1, none⟩ = some (.slice a1 k1 c1) ∧ W'.cell? ⟨w.heap.size, 2, none⟩ = some (.bool n2) ∧ W'.cell? ⟨w.heap.size, 3, none⟩ = some (.slice a2 k2 c2) ∧ W'.cell? ⟨w.heap.size + 1, 0, none⟩ = some (.bool n3) ∧ W'.cell? ⟨w.heap.size + 1, 1, none⟩ = some (.slice a3 k3 c3) ∧ W'.cell? ⟨w.heap.size + 1, 2, none⟩ = some (.bool n4) ∧ W'.cell? ⟨w.heap.size + 1, 3, none⟩ = some (.slice a4 k4 c4)) (first | exact keep44 bA bB E.bl | exact keep44 ((bA.keep E.bl).beside (by omega) _ _ _ _) ((bB.keep E.bl).beside (by omega) _ _ _ _) (Below.refl _ _)) (first
    | (go_at_call 95; go_must (refine (re_negRat E (by repeat (first | exact List.Mem.head _ | refine List.Mem.tail _ ?_)) (by omega)).mono ?_); rintro e wn ⟨nn, an, kn, cn, no, ao, ko, co, rfl, En⟩; clear E; have E := En; clear En)
    | (go_at_call 46; go_must (refine (re_addRat E (by repeat (first | exact List.Mem.head _ | refine List.Mem.tail _ ?_)) (by repeat (first | exact List.Mem.head _ | refine List.Mem.tail _ ?_)) (by omega) (by omega)).mono ?_); rintro e w3 ⟨nr, ar, kr, cr, nt, at', kt, ct, rfl, En⟩; clear E; have E := En; clear En; obtain ⟨z0, z1, z2, z3⟩ := (bR.keep E.bl).c; have zf := (bR.keep E.bl).f; have zl := (bR.keep E.bl).lt))
  have E4 := E.refill (bR.keep E.bl) (.bool nr) (.slice ar kr cr) (.bool nt) (.slice at' kt ct)
  have HB := hid (below_fill4 (below_call hW0 E.bl hW0.size) (show w.heap.size ≤ w.heap.size + 1 + 1 by omega) (.bool nr) (.slice ar kr cr) (.bool nt) (.slice at' kt ct))
  have HS := hid (E4.s _ (List.Mem.head _))
  rw [← Rat.sub_eq_add_neg] at HS
  clear E E4 bA bB bR
  go_wp2
  refine bodyPost_ret (v := .agg #[.bool nr, .slice ar kr cr, .bool nt, .slice at' kt ct]) ?_ rfl ⟨nr, ar, kr, cr, nt, at', kt, ct, rfl, HS.out.mono (Nat.le_refl _) (by omega), HB.out⟩
  simp [results, Try.results48, go_sem, z0, z1, z2, z3]

set_option maxHeartbeats 3200000 in
theorem rfloor_any (w : World) (u : Value) (n : Nat) (r : Rat) (hu : RArg w u n r) (hn : n ≤ 40000) :
    Calls Try.prog 54 #[u] w (Told 0 (n + 5) r.floor w) := by
  have HX := hid hu
  obtain ⟨n1, a1, k1, c1, n2, a2, k2, c2, rfl⟩ := hu.shape
  clear hu
  have HD : Hid ((r.den : Int) ≠ 0) := hid (by have := r.den_nz; omega)
  have HF := hid (floor_rat r)
  go_enter Try.func54, Try.ntmps54
  go_wp2_with fail
  have hW0 : Below w.heap.size w ((w.alloc (.cells #[.bool n1, .slice a1 k1 c1, .bool n2, .slice a2 k2 c2] 43)).alloc (.cells #[.bool false, .slice none 0 0] 24)) := (by repeat (first | exact Below.refl _ _ | refine Below.alloc ?_ ?_ _ | refine Below.setCell ?_ ?_ _ | refine Below.drew ?_ | refine below_drewN ?_ _ | (· simp) | omega | (· simp; omega) | exact Below.size (by assumption) | assumption | refine below_call ?_ (by assumption) ?_))
  have bA0 : Box4 ((w.alloc (.cells #[.bool n1, .slice a1 k1 c1, .bool n2, .slice a2 k2 c2] 43)).alloc (.cells #[.bool false, .slice none 0 0] 24)) w.heap.size (.bool n1) (.slice a1 k1 c1) (.bool n2) (.slice a2 k2 c2) := (Box4.new _ _ _ _ _ _ rfl).alloc _
  have bR0 : Box ((w.alloc (.cells #[.bool n1, .slice a1 k1 c1, .bool n2, .slice a2 k2 c2] 43)).alloc (.cells #[.bool false, .slice none 0 0] 24)) (w.heap.size + 1) (.bool false) (.slice none 0 0) := Box.new _ _ _ _ (by simp)
  generalize ((w.alloc (.cells #[.bool n1, .slice a1 k1 c1, .bool n2, .slice a2 k2 c2] 43)).alloc (.cells #[.bool false, .slice none 0 0] 24)) = W0 at *
  have E0 : RE W0 W0 [] [] [(Value.agg #[Value.bool n1, Value.slice a1 k1 c1, Value.bool n2, Value.slice a2 k2 c2], n, r)] [] := (RE.none W0).knowR (HX.out.below hW0)
  clear HX
  refine (re_norm4 E0 (List.Mem.head _) (by omega)).mono ?_
  rintro e w1 ⟨m1, p1, j1, d1, m2, p2, j2, d2, rfl, E1⟩
  clear E0
  have hW := below_fill4 (below_call hW0 E1.bl hW0.size) (show w.heap.size ≤ w.heap.size by omega) (.bool m1) (.slice p1 j1 d1) (.bool m2) (.slice p2 j2 d2)
  have bR := (bR0.keep E1.bl).beside4 (show w.heap.size + 1 ≠ w.heap.size by omega) (.bool m1) (.slice p1 j1 d1) (.bool m2) (.slice p2 j2 d2)
  have E := E1.refill (bA0.keep E1.bl) (.bool m1) (.slice p1 j1 d1) (.bool m2) (.slice p2 j2 d2)
  obtain ⟨x0, x1, x2, x3⟩ := (bA0.keep E1.bl).c
  have xf := (bA0.keep E1.bl).f
  have lA := (bA0.keep E1.bl).lt
  clear E1 bA0 bR0 hW0
  go_wp2_with fail
  clear x0 x1 x2 x3 xf lA
  rw [fill4_eq]
  generalize fill4 w1 w.heap.size (.bool m1) (.slice p1 j1 d1) (.bool m2) (.slice p2 j2 d2) = W1 at *
  refine (re_rdiv E (u := .agg #[.bool m1, .slice p1 j1 d1]) (v := .agg #[.bool m2, .slice p2 j2 d2]) (x := r.num) (y := (r.den : Int)) (List.Mem.head _) (List.Mem.tail _ (List.Mem.head _)) HD.out (by omega) (by omega)).mono ?_
  rintro e w3 ⟨nq, aq, kq, cq, nr, ar, kr, cr, rfl, E3⟩
  clear E
  have HNG := hid (is_neg (E3.i _ (List.Mem.tail _ (List.Mem.head _))))
  have bR3 := bR.keep E3.bl
  have hW3 := below_call hW E3.bl hW.size
  have z0 := bR3.c0
  have z1 := bR3.c1
  have zf := bR3.f
  have zl := bR3.lt
  have zl2 : w.heap.size < w3.heap.size := by omega
  clear bR hW
  cases nr
  · have HQ : Hid (r.floor = r.num.tdiv r.den) := hid (by rw [HF.out, if_neg (Int.not_lt.2 (HNG.out.2 rfl))])
    have E4 := ((E3.refill2 bR3 (.bool nq) (.slice aq kq cq)).alloc (.cells #[.bool nq, .slice aq kq cq] 24)).alloc (.cells #[.bool false, .slice ar kr cr] 24)
    have HI := hid (E4.i (.agg #[.bool nq, .slice aq kq cq], n + 2, r.num.tdiv r.den) (List.Mem.head _))
    have HB : Hid (Below w.heap.size w (((fill2 w3 (w.heap.size + 1) (.bool nq) (.slice aq kq cq)).alloc (.cells #[.bool nq, .slice aq kq cq] 24)).alloc (.cells #[.bool false, .slice ar kr cr] 24))) := hid (by
      have h1 := below_fill2 hW3 (show w.heap.size ≤ w.heap.size + 1 by omega) (.bool nq) (.slice aq kq cq)
      have h2 := h1.alloc h1.size (.cells #[.bool nq, .slice aq kq cq] 24)
      exact h2.alloc h2.size (.cells #[.bool false, .slice ar kr cr] 24))
    have f0 := (((bR3.filled (.bool nq) (.slice aq kq cq)).alloc (.cells #[.bool nq, .slice aq kq cq] 24)).alloc (.cells #[.bool false, .slice ar kr cr] 24)).c0
    have f1 := (((bR3.filled (.bool nq) (.slice aq kq cq)).alloc (.cells #[.bool nq, .slice aq kq cq] 24)).alloc (.cells #[.bool false, .slice ar kr cr] 24)).c1
    unfold fill2 at f0 f1
    clear E3 E4 bR3 HNG HF
    go_wp2
    refine bodyPost_ret (v := .agg #[.bool nq, .slice aq kq cq]) ?_ rfl ⟨nq, aq, kq, cq, rfl, ?_, HB.out⟩
    · simp [results, Try.results54, go_sem, f0, f1]
    · rw [HQ.out]
      exact HI.out.mono (Nat.le_refl _) (by omega)
  · have HQ : Hid (r.floor = r.num.tdiv r.den - 1) := hid (by rw [HF.out, if_pos (HNG.out.1 rfl)])
    have E4 := (E3.alloc (.cells #[.bool nq, .slice aq kq cq] 24)).alloc (.cells #[.bool true, .slice ar kr cr] 24)
    have bQ : Box ((w3.alloc (.cells #[.bool nq, .slice aq kq cq] 24)).alloc (.cells #[.bool true, .slice ar kr cr] 24)) w3.heap.size (.bool nq) (.slice aq kq cq) := (Box.new _ _ _ _ rfl).alloc _
    have bR4 : Box ((w3.alloc (.cells #[.bool nq, .slice aq kq cq] 24)).alloc (.cells #[.bool true, .slice ar kr cr] 24)) (w.heap.size + 1) (.bool false) (.slice none 0 0) := (bR3.alloc _).alloc _
    have hW4 : Below w.heap.size w ((w3.alloc (.cells #[.bool nq, .slice aq kq cq] 24)).alloc (.cells #[.bool true, .slice ar kr cr] 24)) := (hW3.alloc hW3.size (.cells #[.bool nq, .slice aq kq cq] 24)).alloc (hW3.alloc hW3.size (.cells #[.bool nq, .slice aq kq cq] 24)).size (.cells #[.bool true, .slice ar kr cr] 24)
    have hne : w.heap.size + 1 < w3.heap.size := zl
    replace E4 := E4.rebase
    clear E3 bR3 HNG HF z0 z1 zf
    go_wp2_with fail
    clear zl zl2
    generalize (w3.alloc (.cells #[.bool nq, .slice aq kq cq] 24)).alloc (.cells #[.bool true, .slice ar kr cr] 24) = W4 at *
    generalize w3.heap.size = gQ at *
    have E := E4.drew
    have q0 := bQ.c0
    have q1 := bQ.c1
    clear E4
    go_region_with (first
      | (go_at_call 55; refine (re_rof E 1 (by omega) (by omega)).mono ?_; rintro e w5 ⟨n5, a5, k5, c5, rfl, E5⟩; (try clear q0 q1); have q0 := (bQ.keep E5.bl).c0; have q1 := (bQ.keep E5.bl).c1; have lQ := (bQ.keep E5.bl).lt)
      | (go_at_call 97; refine (re_rsub E5 (u := .agg #[.bool nq, .slice aq kq cq]) (x := r.num.tdiv r.den) (by repeat (first | exact List.Mem.head _ | refine List.Mem.tail _ ?_)) (List.Mem.head _) (by omega) (by omega)).mono ?_; rintro e w6 ⟨n6, a6, k6, c6, rfl, E6⟩; (try clear q0 q1 lQ); have q0 := (bQ.keep E6.bl).c0; have q1 := (bQ.keep E6.bl).c1; have qf := (bQ.keep E6.bl).f; have lQ := (bQ.keep E6.bl).lt; have z0 := (bR4.keep E6.bl).c0; have z1 := (bR4.keep E6.bl).c1; have zf := (bR4.keep E6.bl).f; have zl := (bR4.keep E6.bl).lt))
    all_goals (
      have E7 := (E6.refill2 (bQ.keep E6.bl) (.bool n6) (.slice a6 k6 c6)).refill2 ((bR4.keep E6.bl).beside2 (show w.heap.size + 1 ≠ gQ by omega) (.bool n6) (.slice a6 k6 c6)) (.bool n6) (.slice a6 k6 c6)
      have HI := hid (E7.i (.agg #[.bool n6, .slice a6 k6 c6], _, r.num.tdiv r.den - 1) (List.Mem.head _))
      have HB := hid (below_fill2 (below_fill2 (below_call hW4 E6.bl hW4.size) (show w.heap.size ≤ gQ by omega) (.bool n6) (.slice a6 k6 c6)) (show w.heap.size ≤ w.heap.size + 1 by omega) (.bool n6) (.slice a6 k6 c6))
      have ne1 : w.heap.size + 1 ≠ gQ := by omega
      have ne2 := ne1.symm
      clear E E5 E6 E7 bQ bR4
      go_wp2
      refine bodyPost_ret (v := .agg #[.bool n6, .slice a6 k6 c6]) ?_ rfl ⟨n6, a6, k6, c6, rfl, by rw [HQ.out]; exact HI.out.mono (Nat.le_refl _) (by omega), HB.out⟩
      simp [results, Try.results54, go_sem, z0, z1, ne1, ne2])

end Go.Proofs.Ytiicjfacekldnaa
