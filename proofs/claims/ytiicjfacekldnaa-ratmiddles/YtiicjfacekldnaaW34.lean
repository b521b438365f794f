/-
  Walks: Quo; a sum of two over the product of their denominators.
-/
import Derived.Test.YtiicjfacekldnaaREnv
namespace Go.Proofs.Ytiicjfacekldnaa
open Go.RowKit Lm
set_option linter.unusedSimpArgs false
set_option linter.unusedVariables false
set_option maxRecDepth 100000

set_option maxHeartbeats 1600000 in
theorem quo_zero (w : World) (u v : Value) (n m : Nat) (x y : Int) (hx : Arg w u n x) (hy : Arg w v m y) (h0 : y = 0) :
    Calls Try.prog 36 #[u, v] w fun e w' => e = .returned (.tuple #[.agg #[.bool false, .slice none 0 0, .bool false, .slice none 0 0], .int .i64 11]) ∧ Below w.heap.size w w' := by
  have HX := hid hx
  have HY := hid hy
  obtain ⟨n1, s1, l1, rfl, -⟩ := hx
  obtain ⟨n2, s2, l2, rfl, -⟩ := hy
  go_enter Try.func36, Try.ntmps36
  go_wp2_with fail
  have hW0 : Below w.heap.size w (((w.alloc (.cells #[.bool n1, s1] 24)).alloc (.cells #[.bool n2, s2] 24)).alloc (.cells #[.bool false, .slice none 0 0, .bool false, .slice none 0 0] 43)) := (by repeat (first | exact Below.refl _ _ | refine Below.alloc ?_ ?_ _ | refine Below.setCell ?_ ?_ _ | refine Below.drew ?_ | refine below_drewN ?_ _ | (· simp) | omega | (· simp; omega) | exact Below.size (by assumption) | assumption | refine below_call ?_ (by assumption) ?_))
  have bR : Box4 (((w.alloc (.cells #[.bool n1, s1] 24)).alloc (.cells #[.bool n2, s2] 24)).alloc (.cells #[.bool false, .slice none 0 0, .bool false, .slice none 0 0] 43)) (w.heap.size + 1 + 1) (.bool false) (.slice none 0 0) (.bool false) (.slice none 0 0) := Box4.new _ _ _ _ _ _ (by simp)
  generalize ((w.alloc (.cells #[.bool n1, s1] 24)).alloc (.cells #[.bool n2, s2] 24)).alloc (.cells #[.bool false, .slice none 0 0, .bool false, .slice none 0 0] 43) = W0 at *
  refine (sign_any _ _ m y (HY.out.below hW0)).mono ?_
  rintro e w1 ⟨rfl, hb1⟩
  rw [cmpI_eq h0]
  have hW1 := below_call hW0 hb1 hW0.size
  replace bR := bR.keep hb1
  obtain ⟨x0, x1, x2, x3⟩ := bR.c
  have xf := bR.f
  clear hb1 h0
  go_wp2
  refine bodyPost_ret (v := .tuple #[.agg #[.bool false, .slice none 0 0, .bool false, .slice none 0 0], .int .i64 11]) ?_ rfl ⟨rfl, (((hW1.setCell (by show w.heap.size ≤ w.heap.size + 1 + 1; omega) _).setCell (by show w.heap.size ≤ w.heap.size + 1 + 1; omega) _).setCell (by show w.heap.size ≤ w.heap.size + 1 + 1; omega) _).setCell (by show w.heap.size ≤ w.heap.size + 1 + 1; omega) _⟩
  simp [results, Try.results36, go_sem, x0, x1, x2, x3]

/-- A quotient and no error have been told. -/
def QSay (n : Nat) (r : Rat) (w : World) (e : Ending) (w' : World) : Prop :=
  ∃ n1 a1 k1 c1 n2 a2 k2 c2, e = .returned (.tuple #[.agg #[.bool n1, .slice a1 k1 c1, .bool n2, .slice a2 k2 c2], .int .i64 0]) ∧ RIs w' 0 (.agg #[.bool n1, .slice a1 k1 c1, .bool n2, .slice a2 k2 c2]) n r ∧ Below w.heap.size w w'

set_option maxHeartbeats 1600000 in
theorem quo_any (w : World) (u v : Value) (n m : Nat) (x y : Int) (hx : Arg w u n x) (hy : Arg w v m y) (h0 : y ≠ 0) (hn : n ≤ 100000) (hm : m ≤ 100000) :
    Calls Try.prog 36 #[u, v] w (QSay (n + m) (Rat.divInt x y) w) := by
  have HX := hid hx
  have HY := hid hy
  have H0 := hid h0
  have hcb : (cmpI y 0 == 0) = false := by simpa using cmpI_ne h0
  obtain ⟨n1, s1, l1, rfl, -⟩ := hx
  obtain ⟨n2, s2, l2, rfl, -⟩ := hy
  go_enter Try.func36, Try.ntmps36
  go_wp2_with fail
  have hW0 : Below w.heap.size w (((w.alloc (.cells #[.bool n1, s1] 24)).alloc (.cells #[.bool n2, s2] 24)).alloc (.cells #[.bool false, .slice none 0 0, .bool false, .slice none 0 0] 43)) := (by repeat (first | exact Below.refl _ _ | refine Below.alloc ?_ ?_ _ | refine Below.setCell ?_ ?_ _ | refine Below.drew ?_ | refine below_drewN ?_ _ | (· simp) | omega | (· simp; omega) | exact Below.size (by assumption) | assumption | refine below_call ?_ (by assumption) ?_))
  have bP : Box (((w.alloc (.cells #[.bool n1, s1] 24)).alloc (.cells #[.bool n2, s2] 24)).alloc (.cells #[.bool false, .slice none 0 0, .bool false, .slice none 0 0] 43)) w.heap.size (.bool n1) s1 := ((Box.new w _ _ _ rfl).alloc _).alloc _
  have bQ : Box (((w.alloc (.cells #[.bool n1, s1] 24)).alloc (.cells #[.bool n2, s2] 24)).alloc (.cells #[.bool false, .slice none 0 0, .bool false, .slice none 0 0] 43)) (w.heap.size + 1) (.bool n2) s2 := (Box.new _ _ _ _ (by simp)).alloc _
  have bR : Box4 (((w.alloc (.cells #[.bool n1, s1] 24)).alloc (.cells #[.bool n2, s2] 24)).alloc (.cells #[.bool false, .slice none 0 0, .bool false, .slice none 0 0] 43)) (w.heap.size + 1 + 1) (.bool false) (.slice none 0 0) (.bool false) (.slice none 0 0) := Box4.new _ _ _ _ _ _ (by simp)
  generalize ((w.alloc (.cells #[.bool n1, s1] 24)).alloc (.cells #[.bool n2, s2] 24)).alloc (.cells #[.bool false, .slice none 0 0, .bool false, .slice none 0 0] 43) = W0 at *
  refine (sign_any _ _ m y (HY.out.below hW0)).mono ?_
  rintro e w1 ⟨rfl, hb1⟩
  have hW1 := below_call hW0 hb1 hW0.size
  replace bP := bP.keep hb1
  replace bQ := bQ.keep hb1
  replace bR := bR.keep hb1
  have p0 := bP.c0
  have p1 := bP.c1
  have q0 := bQ.c0
  have q1 := bQ.c1
  have lP := bP.lt
  have lQ := bQ.lt
  clear hb1 h0
  go_wp2_with fail
  refine (least_say _ _ _ n m x y (HX.out.below hW1) (HY.out.below hW1) H0.out hn hm).mono ?_
  rintro e w2 ⟨m1, b1, j1, d1, m2, b2, j2, d2, rfl, hI, hb2⟩
  have hW2 := below_call hW1 hb2 hW1.size
  replace bR := bR.keep hb2
  have HI := hid hI
  have HB := hid bR
  obtain ⟨x0, x1, x2, x3⟩ := bR.c
  have xf := bR.f
  clear hb2 hI p0 p1 q0 q1 lP lQ bP bQ
  go_wp2
  refine bodyPost_ret (v := .tuple #[.agg #[.bool m1, .slice b1 j1 d1, .bool m2, .slice b2 j2 d2], .int .i64 0]) ?_ rfl ⟨m1, b1, j1, d1, m2, b2, j2, d2, rfl, (HI.out.off4 HB.out (grow4 _ _ _ _ _ _)).mono (Nat.zero_le _) (Nat.le_refl _), below_fill4 hW2 (by omega) _ _ _ _⟩
  simp [results, Try.results36, go_sem, x0, x1, x2, x3]

/-- Two numbers have been told. -/
def PSay (n : Nat) (x y : Int) (w : World) (e : Ending) (w' : World) : Prop :=
  ∃ n1 a1 k1 c1 n2 a2 k2 c2, e = .returned (.agg #[.bool n1, .slice a1 k1 c1, .bool n2, .slice a2 k2 c2]) ∧ Arg w' (.agg #[.bool n1, .slice a1 k1 c1]) n x ∧ Arg w' (.agg #[.bool n2, .slice a2 k2 c2]) n y ∧ Below w.heap.size w w'

set_option maxHeartbeats 3200000 in
theorem sumOfTwo_any (w : World) (n1 n2 n3 n4 : Bool) (a1 a2 a3 a4 : Option Addr) (k1 c1 k2 c2 k3 c3 k4 c4 n m : Nat) (x y x' y' : Int) (hx : Arg w (.agg #[.bool n1, .slice a1 k1 c1]) n x) (hy : Arg w (.agg #[.bool n2, .slice a2 k2 c2]) n y) (hx' : Arg w (.agg #[.bool n3, .slice a3 k3 c3]) m x') (hy' : Arg w (.agg #[.bool n4, .slice a4 k4 c4]) m y') (hn : n ≤ 40000) (hm : m ≤ 40000) :
    Calls Try.prog 126 #[.agg #[.bool n1, .slice a1 k1 c1, .bool n2, .slice a2 k2 c2], .agg #[.bool n3, .slice a3 k3 c3, .bool n4, .slice a4 k4 c4]] w (PSay (2 * n + 2 * m + 1) (x * y' + x' * y) (y * y') w) := by
  have H1 := hid hx
  have H2 := hid hy
  have H3 := hid hx'
  have H4 := hid hy'
  clear hx hy hx' hy'
  go_enter Try.func126, Try.ntmps126
  go_wp2_with fail
  have hW0 : Below w.heap.size w (((w.alloc (.cells #[.bool n1, .slice a1 k1 c1, .bool n2, .slice a2 k2 c2] 43)).alloc (.cells #[.bool n3, .slice a3 k3 c3, .bool n4, .slice a4 k4 c4] 43)).alloc (.cells #[.bool false, .slice none 0 0, .bool false, .slice none 0 0] 43)) := (by repeat (first | exact Below.refl _ _ | refine Below.alloc ?_ ?_ _ | refine Below.setCell ?_ ?_ _ | refine Below.drew ?_ | refine below_drewN ?_ _ | (· simp) | omega | (· simp; omega) | exact Below.size (by assumption) | assumption | refine below_call ?_ (by assumption) ?_))
  have bA : Box4 (((w.alloc (.cells #[.bool n1, .slice a1 k1 c1, .bool n2, .slice a2 k2 c2] 43)).alloc (.cells #[.bool n3, .slice a3 k3 c3, .bool n4, .slice a4 k4 c4] 43)).alloc (.cells #[.bool false, .slice none 0 0, .bool false, .slice none 0 0] 43)) w.heap.size (.bool n1) (.slice a1 k1 c1) (.bool n2) (.slice a2 k2 c2) := ((Box4.new _ _ _ _ _ _ rfl).alloc _).alloc _
  have bB : Box4 (((w.alloc (.cells #[.bool n1, .slice a1 k1 c1, .bool n2, .slice a2 k2 c2] 43)).alloc (.cells #[.bool n3, .slice a3 k3 c3, .bool n4, .slice a4 k4 c4] 43)).alloc (.cells #[.bool false, .slice none 0 0, .bool false, .slice none 0 0] 43)) (w.heap.size + 1) (.bool n3) (.slice a3 k3 c3) (.bool n4) (.slice a4 k4 c4) := (Box4.new _ _ _ _ _ _ (by simp)).alloc _
  have bR : Box4 (((w.alloc (.cells #[.bool n1, .slice a1 k1 c1, .bool n2, .slice a2 k2 c2] 43)).alloc (.cells #[.bool n3, .slice a3 k3 c3, .bool n4, .slice a4 k4 c4] 43)).alloc (.cells #[.bool false, .slice none 0 0, .bool false, .slice none 0 0] 43)) (w.heap.size + 1 + 1) (.bool false) (.slice none 0 0) (.bool false) (.slice none 0 0) := Box4.new _ _ _ _ _ _ (by simp)
  generalize ((w.alloc (.cells #[.bool n1, .slice a1 k1 c1, .bool n2, .slice a2 k2 c2] 43)).alloc (.cells #[.bool n3, .slice a3 k3 c3, .bool n4, .slice a4 k4 c4] 43)).alloc (.cells #[.bool false, .slice none 0 0, .bool false, .slice none 0 0] 43) = W0 at *
  have E : RE W0 W0.drew [(.agg #[.bool n1, .slice a1 k1 c1], n, x), (.agg #[.bool n2, .slice a2 k2 c2], n, y), (.agg #[.bool n3, .slice a3 k3 c3], m, x'), (.agg #[.bool n4, .slice a4 k4 c4], m, y')] [] [] [] :=
    (((((RE.none W0).know (H4.out.below hW0)).know (H3.out.below hW0)).know (H2.out.below hW0)).know (H1.out.below hW0)).drew
  go_region_held3 (fun W' => W'.cell? ⟨w.heap.size, 0, none⟩ = some (.bool n1) ∧ W'.cell? ⟨w.heap.size, 1, none⟩ = some (.slice a1 k1 c1) ∧ W'.cell? ⟨w.heap.size, 2, none⟩ = some (.bool n2) ∧ W'.cell? ⟨w.heap.size, 3, none⟩ = some (.slice a2 k2 c2) ∧ W'.cell? ⟨w.heap.size + 1, 0, none⟩ = some (.bool n3) ∧ W'.cell? ⟨w.heap.size + 1, 1, none⟩ = some (.slice a3 k3 c3) ∧ W'.cell? ⟨w.heap.size + 1, 2, none⟩ = some (.bool n4) ∧ W'.cell? ⟨w.heap.size + 1, 3, none⟩ = some (.slice a4 k4 c4)) (first | exact keep44 bA bB E.bl | exact keep44 ((bA.keep E.bl).beside (by omega) _ _ _ _) ((bB.keep E.bl).beside (by omega) _ _ _ _) (Below.refl _ _)) (first
    | (go_at_call 30; go_must (refine (re_mul E (by repeat (first | exact List.Mem.head _ | refine List.Mem.tail _ ?_)) (by repeat (first | exact List.Mem.head _ | refine List.Mem.tail _ ?_)) (by omega) (by omega)).mono ?_); rintro e wn ⟨nn, an, kn, cn, rfl, En⟩; clear E; have E := En; clear En; (try clear z0 z1 z2 z3 zf zl); obtain ⟨z0, z1, z2, z3⟩ := (bR.keep E.bl).c; have zf := (bR.keep E.bl).f; have zl := (bR.keep E.bl).lt)
    | (go_at_call 31; go_must (refine (re_add E (by repeat (first | exact List.Mem.head _ | refine List.Mem.tail _ ?_)) (by repeat (first | exact List.Mem.head _ | refine List.Mem.tail _ ?_)) (by omega) (by omega)).mono ?_); rintro e wn ⟨ns, az, ks, cs, rfl, En⟩; clear E; have E := En; clear En; (try clear z0 z1 z2 z3 zf zl); obtain ⟨z0, z1, z2, z3⟩ := (bR.keep E.bl).c; have zf := (bR.keep E.bl).f; have zl := (bR.keep E.bl).lt))
  have E2 := E.refill (bR.keep E.bl) (.bool ns) (.slice az ks cs) (.bool nn) (.slice an kn cn)
  have EA := hid (E2.a _ (List.Mem.tail _ (List.Mem.head _)))
  have EM := hid (E2.a _ (List.Mem.head _))
  have EB : Hid (Below w.heap.size w (fill4 wn (w.heap.size + 1 + 1) (.bool ns) (.slice az ks cs) (.bool nn) (.slice an kn cn))) := hid (below_fill4 (below_call hW0 E.bl hW0.size) (by omega) _ _ _ _)
  clear E E2
  go_wp2
  refine bodyPost_ret (v := .agg #[.bool ns, .slice az ks cs, .bool nn, .slice an kn cn]) ?_ rfl ⟨ns, az, ks, cs, nn, an, kn, cn, rfl, EA.out.mono (by omega), EM.out.mono (by omega), ?_⟩
  · simp [results, Try.results126, go_sem, z0, z1, z2, z3]
  · exact EB.out

end Go.Proofs.Ytiicjfacekldnaa
