/-
  Walks: Add, Sub.
  Walks: Mul.
  Walks: the law NumForms.
  What a law knows while it goes from call to call: its boxes, the numbers that it has been handed or told, and that nothing old has turned.
-/
import Derived.Test.YtogdchddmjokmaaGreatDoorWC
import Derived.Test.YtogdchddmjokmaaGreatDoorWB

namespace Go.Proofs.YtogdchddmjokmaaGreatDoor
open Go.RowKit Lm
set_option linter.unusedSimpArgs false
set_option linter.unusedVariables false
set_option maxRecDepth 100000

set_option maxHeartbeats 3200000 in
theorem add_num (w : World) (u v : Value) (n m : Nat) (x y : Int) (hx : Arg w u n x) (hy : Arg w v m y) (hn : n ≤ 1000000) (hm : m ≤ 1000000) :
    Calls Tryz.prog 59 #[u, v] w (Told w.heap.size (n + m + 1) (x + y) w) := by
  have HX := hid hx
  have HY := hid hy
  obtain ⟨n1, s1, l1, rfl, -⟩ := hx
  obtain ⟨n2, s2, l2, rfl, -⟩ := hy
  go_enter Tryz.func59, Tryz.ntmps59
  go_wp2
  go_cut [] (fun wc => ∃ neg1 ao1 cap1 l1 neg2 ao2 cap2 l2, Boxed2 w (w.heap.size + 3) n m x y wc neg1 ao1 cap1 l1 neg2 ao2 cap2 l2)
  case first =>
    go_region_with (first | (go_at_call_of 45 (Value.agg #[Value.bool n1, s1]); refine (counted_h w _ _ n x HX.out ?_).mono ?_; (exact (by repeat (first | exact Below.refl _ _ | refine Below.alloc ?_ ?_ _ | refine Below.setCell ?_ ?_ _ | refine Below.drew ?_ | refine below_drewN ?_ _ | (· simp) | omega | (· simp; omega) | exact Below.size (by assumption) | assumption | refine below_call ?_ (by assumption) ?_))); rintro e w1 ⟨neg1, ao1, cap1, k1, l1, rfl, HK1, HC1, hb1⟩; obtain ⟨hc1, hf1⟩ := bcell hb1; simp only [asize, dsize] at hc1 hf1) | (go_at_call_of 45 (Value.agg #[Value.bool n2, s2]); refine (counted_h w _ _ m y HY.out ?_).mono ?_; (exact (by repeat (first | exact Below.refl _ _ | refine Below.alloc ?_ ?_ _ | refine Below.setCell ?_ ?_ _ | refine Below.drew ?_ | refine below_drewN ?_ _ | (· simp) | omega | (· simp; omega) | exact Below.size (by assumption) | assumption | refine below_call ?_ (by assumption) ?_))); rintro e w2 ⟨neg2, ao2, cap2, k2, l2, rfl, HK2, HC2, hb2⟩; have hW2 := below_call hb1 hb2 hb1.size; obtain ⟨hc2, hf2⟩ := bcell hW2; simp only [asize, dsize] at hc2 hf2))
    all_goals (go_wp2_with fail; go_meet; exact ⟨neg1, ao1, cap1, _, neg2, ao2, cap2, _, boxed2_mk HK1 HC1 HK2 HC2 (laid3 w n1 s1 n2 s2).1 (laid3 w n1 s1 n2 s2).2.1 (laid3 w n1 s1 n2 s2).2.2.1 (laid3 w n1 s1 n2 s2).2.2.2.1 (laid3 w n1 s1 n2 s2).2.2.2.2 (below_undrew hW2)⟩)
  case rest =>
    obtain ⟨neg1, ao1, cap1, l1, neg2, ao2, cap2, l2, HB⟩ := hcut
    have HB' := hid HB
    have a0 := HB.b1.c0
    have a1 := HB.b1.c1
    have b0 := HB.b2.c0
    have b1 := HB.b2.c1
    have hln := HB.c1.2.1
    have hlm := HB.c2.2.1
    have hsz := HB.sz
    clear HB
    go_wp2_with fail
    refine (addSigned_any _ neg1 ao1 cap1 l1 neg2 ao2 cap2 l2 (by exact HB'.out.c1.1.below HB'.out.bl) (by exact HB'.out.c2.1.below HB'.out.bl) (may_canon HB'.out.c1.2.2.1) (may_canon HB'.out.c2.2.2.1) (by omega) (by omega)).mono ?_
    rintro e w3 ⟨nr, ar, kr, cr, rfl, hI, hb3⟩
    have HI := hid hI
    have HZ : Hid (x + y = sgn neg1 (val l1) + sgn (neg2) (val l2)) := hid (by rw [HB'.out.c1.2.2.2, HB'.out.c2.2.2.2])
    have hW3 := below_call HB'.out.bl hb3 HB'.out.bl.size
    have bx := (HB'.out.rs (w.heap.size + 1 + 1) (by omega) (by omega)).keep hb3
    have x0 := bx.c0
    have x1 := bx.c1
    have xf := bx.f
    clear hI bx hb3 a0 a1 b0 b1
    go_wp2
    refine bodyPost_ret (v := .agg #[.bool nr, .slice ar kr cr]) ?_ rfl ⟨nr, ar, kr, cr, rfl, ?_, (by repeat (first | exact Below.refl _ _ | refine Below.alloc ?_ ?_ _ | refine Below.setCell ?_ ?_ _ | refine Below.drew ?_ | refine below_drewN ?_ _ | (· simp) | omega | (· simp; omega) | exact Below.size (by assumption) | assumption | refine below_call ?_ (by assumption) ?_))⟩
    · simp [results, Tryz.results59, go_sem, x0, x1]
    · rw [HZ.out]
      exact ((HI.out.setCell (by show w.heap.size + 1 + 1 < _; omega) _).setCell (by show w.heap.size + 1 + 1 < _; omega) _).mono (by omega) (by omega)

set_option maxHeartbeats 3200000 in
theorem sub_num (w : World) (u v : Value) (n m : Nat) (x y : Int) (hx : Arg w u n x) (hy : Arg w v m y) (hn : n ≤ 1000000) (hm : m ≤ 1000000) :
    Calls Tryz.prog 29 #[u, v] w (Told w.heap.size (n + m + 1) (x - y) w) := by
  have HX := hid hx
  have HY := hid hy
  obtain ⟨n1, s1, l1, rfl, -⟩ := hx
  obtain ⟨n2, s2, l2, rfl, -⟩ := hy
  go_enter Tryz.func29, Tryz.ntmps29
  go_wp2
  go_cut [] (fun wc => ∃ neg1 ao1 cap1 l1 neg2 ao2 cap2 l2, Boxed2 w (w.heap.size + 3) n m x y wc neg1 ao1 cap1 l1 neg2 ao2 cap2 l2)
  case first =>
    go_region_with (first | (go_at_call_of 45 (Value.agg #[Value.bool n1, s1]); refine (counted_h w _ _ n x HX.out ?_).mono ?_; (exact (by repeat (first | exact Below.refl _ _ | refine Below.alloc ?_ ?_ _ | refine Below.setCell ?_ ?_ _ | refine Below.drew ?_ | refine below_drewN ?_ _ | (· simp) | omega | (· simp; omega) | exact Below.size (by assumption) | assumption | refine below_call ?_ (by assumption) ?_))); rintro e w1 ⟨neg1, ao1, cap1, k1, l1, rfl, HK1, HC1, hb1⟩; obtain ⟨hc1, hf1⟩ := bcell hb1; simp only [asize, dsize] at hc1 hf1) | (go_at_call_of 45 (Value.agg #[Value.bool n2, s2]); refine (counted_h w _ _ m y HY.out ?_).mono ?_; (exact (by repeat (first | exact Below.refl _ _ | refine Below.alloc ?_ ?_ _ | refine Below.setCell ?_ ?_ _ | refine Below.drew ?_ | refine below_drewN ?_ _ | (· simp) | omega | (· simp; omega) | exact Below.size (by assumption) | assumption | refine below_call ?_ (by assumption) ?_))); rintro e w2 ⟨neg2, ao2, cap2, k2, l2, rfl, HK2, HC2, hb2⟩; have hW2 := below_call hb1 hb2 hb1.size; obtain ⟨hc2, hf2⟩ := bcell hW2; simp only [asize, dsize] at hc2 hf2))
    all_goals (go_wp2_with fail; go_meet; exact ⟨neg1, ao1, cap1, _, neg2, ao2, cap2, _, boxed2_mk HK1 HC1 HK2 HC2 (laid3 w n1 s1 n2 s2).1 (laid3 w n1 s1 n2 s2).2.1 (laid3 w n1 s1 n2 s2).2.2.1 (laid3 w n1 s1 n2 s2).2.2.2.1 (laid3 w n1 s1 n2 s2).2.2.2.2 (below_undrew hW2)⟩)
  case rest =>
    obtain ⟨neg1, ao1, cap1, l1, neg2, ao2, cap2, l2, HB⟩ := hcut
    have HB' := hid HB
    have a0 := HB.b1.c0
    have a1 := HB.b1.c1
    have b0 := HB.b2.c0
    have b1 := HB.b2.c1
    have hln := HB.c1.2.1
    have hlm := HB.c2.2.1
    have hsz := HB.sz
    clear HB
    go_wp2_with fail
    refine (addSigned_any _ neg1 ao1 cap1 l1 (!neg2) ao2 cap2 l2 (by exact HB'.out.c1.1.below HB'.out.bl) (by exact HB'.out.c2.1.below HB'.out.bl) (may_canon HB'.out.c1.2.2.1) (may_canon HB'.out.c2.2.2.1) (by omega) (by omega)).mono ?_
    rintro e w3 ⟨nr, ar, kr, cr, rfl, hI, hb3⟩
    have HI := hid hI
    have HZ : Hid (x - y = sgn neg1 (val l1) + sgn (!neg2) (val l2)) := hid (by rw [HB'.out.c1.2.2.2, HB'.out.c2.2.2.2]; cases neg2 <;> simp [sgn] <;> omega)
    have hW3 := below_call HB'.out.bl hb3 HB'.out.bl.size
    have bx := (HB'.out.rs (w.heap.size + 1 + 1) (by omega) (by omega)).keep hb3
    have x0 := bx.c0
    have x1 := bx.c1
    have xf := bx.f
    clear hI bx hb3 a0 a1 b0 b1
    go_wp2
    refine bodyPost_ret (v := .agg #[.bool nr, .slice ar kr cr]) ?_ rfl ⟨nr, ar, kr, cr, rfl, ?_, (by repeat (first | exact Below.refl _ _ | refine Below.alloc ?_ ?_ _ | refine Below.setCell ?_ ?_ _ | refine Below.drew ?_ | refine below_drewN ?_ _ | (· simp) | omega | (· simp; omega) | exact Below.size (by assumption) | assumption | refine below_call ?_ (by assumption) ?_))⟩
    · simp [results, Tryz.results29, go_sem, x0, x1]
    · rw [HZ.out]
      exact ((HI.out.setCell (by show w.heap.size + 1 + 1 < _; omega) _).setCell (by show w.heap.size + 1 + 1 < _; omega) _).mono (by omega) (by omega)

end Go.Proofs.YtogdchddmjokmaaGreatDoor

namespace Go.Proofs.YtogdchddmjokmaaGreatDoor
open Go.RowKit Lm
set_option linter.unusedSimpArgs false
set_option linter.unusedVariables false
set_option maxRecDepth 100000

set_option maxHeartbeats 3200000 in
theorem mul_num (w : World) (u v : Value) (n m : Nat) (x y : Int) (hx : Arg w u n x) (hy : Arg w v m y) (hn : n ≤ 500000) (hm : m ≤ 500000) :
    Calls Tryz.prog 60 #[u, v] w (Told w.heap.size (n + m) (x * y) w) := by
  have HX := hid hx
  have HY := hid hy
  obtain ⟨n1, s1, l1, rfl, -⟩ := hx
  obtain ⟨n2, s2, l2, rfl, -⟩ := hy
  go_enter Tryz.func60, Tryz.ntmps60
  go_wp2
  go_cut [] (fun wc => ∃ neg1 ao1 cap1 l1 neg2 ao2 cap2 l2, Boxed2 w (w.heap.size + 3) n m x y wc neg1 ao1 cap1 l1 neg2 ao2 cap2 l2)
  case first =>
    go_region_with (first | (go_at_call_of 45 (Value.agg #[Value.bool n1, s1]); refine (counted_h w _ _ n x HX.out ?_).mono ?_; (exact (by repeat (first | exact Below.refl _ _ | refine Below.alloc ?_ ?_ _ | refine Below.setCell ?_ ?_ _ | refine Below.drew ?_ | refine below_drewN ?_ _ | (· simp) | omega | (· simp; omega) | exact Below.size (by assumption) | assumption | refine below_call ?_ (by assumption) ?_))); rintro e w1 ⟨neg1, ao1, cap1, k1, l1, rfl, HK1, HC1, hb1⟩; obtain ⟨hc1, hf1⟩ := bcell hb1; simp only [asize, dsize] at hc1 hf1) | (go_at_call_of 45 (Value.agg #[Value.bool n2, s2]); refine (counted_h w _ _ m y HY.out ?_).mono ?_; (exact (by repeat (first | exact Below.refl _ _ | refine Below.alloc ?_ ?_ _ | refine Below.setCell ?_ ?_ _ | refine Below.drew ?_ | refine below_drewN ?_ _ | (· simp) | omega | (· simp; omega) | exact Below.size (by assumption) | assumption | refine below_call ?_ (by assumption) ?_))); rintro e w2 ⟨neg2, ao2, cap2, k2, l2, rfl, HK2, HC2, hb2⟩; have hW2 := below_call hb1 hb2 hb1.size; obtain ⟨hc2, hf2⟩ := bcell hW2; simp only [asize, dsize] at hc2 hf2))
    all_goals (go_wp2_with fail; go_meet; exact ⟨neg1, ao1, cap1, _, neg2, ao2, cap2, _, boxed2_mk HK1 HC1 HK2 HC2 (laid3 w n1 s1 n2 s2).1 (laid3 w n1 s1 n2 s2).2.1 (laid3 w n1 s1 n2 s2).2.2.1 (laid3 w n1 s1 n2 s2).2.2.2.1 (laid3 w n1 s1 n2 s2).2.2.2.2 (below_undrew hW2)⟩)
  case rest =>
    obtain ⟨neg1, ao1, cap1, l1, neg2, ao2, cap2, l2, HB⟩ := hcut
    have HB' := hid HB
    have a0 := HB.b1.c0
    have a1 := HB.b1.c1
    have b0 := HB.b2.c0
    have b1 := HB.b2.c1
    have hln := HB.c1.2.1
    have hlm := HB.c2.2.1
    have hsz := HB.sz
    have hbl := HB.bl
    clear HB
    have bx := HB'.out.rs (w.heap.size + 1 + 1) (by omega) (by omega)
    have HBX := hid bx
    have HB1 := hid HB'.out.b1
    have HB2 := hid HB'.out.b2
    clear bx
    go_wp2_with fail
    go_region_held3 (fun w' => (w'.cell? ⟨w.heap.size, 0, none⟩ = some (.bool neg1) ∧ w'.cell? ⟨w.heap.size, 1, none⟩ = some (.slice ao1 l1.length cap1) ∧ w'.cell? ⟨w.heap.size + 1, 0, none⟩ = some (.bool neg2) ∧ w'.cell? ⟨w.heap.size + 1, 1, none⟩ = some (.slice ao2 l2.length cap2))) (refine ⟨?_, ?_, ?_, ?_⟩ <;> repeat (first | with_reducible exact a40 | with_reducible exact a41 | with_reducible exact b40 | with_reducible exact b41 | with_reducible exact a30 | with_reducible exact a31 | with_reducible exact b30 | with_reducible exact b31 | with_reducible refine cell_far ?_ ?_ | with_reducible refine cell_drew ?_ | with_reducible exact a0 | with_reducible exact a1 | with_reducible exact b0 | with_reducible exact b1 | (· simp) | (· simp; omega))) (first
      | (go_at_call 79; go_must (refine (mulLimbs_any _ ao1 cap1 l1 ao2 cap2 l2 (by exact (HB'.out.c1.1.below HB'.out.bl).drew) (by exact (HB'.out.c2.1.below HB'.out.bl).drew) (by omega) (by omega)).mono ?_); rintro e w3 ⟨g, cap, k, l, rfl, HK, hs, hg, hl, hv, hb3⟩; have HV := hid hv; have bb1 := HB1.out.drew.keep hb3; have bb2 := HB2.out.drew.keep hb3; have HBX3 := hid (HBX.out.drew.keep hb3); have HB13 := hid bb1; have HB23 := hid bb2; have a30 := bb1.c0; have a31 := bb1.c1; have b30 := bb2.c0; have b31 := bb2.c1; have hz3 := hb3.size; simp only [dsize] at hz3 hg; clear bb1 bb2 hv)
      | (go_at_call 53; go_must (refine (made_k _ (w.heap.size + 3) _ _ cap k l HK.out (by exact hs) (from_row _ _ _ (by omega))).mono ?_); rintro e w4 ⟨nr, ar, kr, cr, rfl, HI, hb4⟩; have bb1 := HB13.out.keep hb4; have bb2 := HB23.out.keep hb4; have bb3 := HBX3.out.keep hb4; have a40 := bb1.c0; have a41 := bb1.c1; have b40 := bb2.c0; have b41 := bb2.c1; have x0 := bb3.c0; have x1 := bb3.c1; have xf := bb3.f; clear bb1 bb2 bb3))
    have HZ : Hid (x * y = sgn (!neg1 == neg2) (val l)) := hid (by rw [HB'.out.c1.2.2.2, HB'.out.c2.2.2.2, HV.out]; cases neg1 <;> cases neg2 <;> simp [sgn, Int.neg_mul, Int.mul_neg])
    have hW4 : Below w.heap.size w w4 := below_call (below_call hbl.drew hb3 (by rw [dsize]; exact hbl.size)) hb4 (by omega)
    clear hb3 hb4 a30 a31 b30 b31 a40 a41 b40 b41 a0 a1 b0 b1
    go_wp2
    refine bodyPost_ret (v := .agg #[.bool nr, .slice ar kr cr]) ?_ rfl ⟨nr, ar, kr, cr, rfl, ?_, (by repeat (first | exact Below.refl _ _ | refine Below.alloc ?_ ?_ _ | refine Below.setCell ?_ ?_ _ | refine Below.drew ?_ | refine below_drewN ?_ _ | (· simp) | omega | (· simp; omega) | exact Below.size (by assumption) | assumption | refine below_call ?_ (by assumption) ?_))⟩
    · simp [results, Tryz.results60, go_sem, x0, x1]
    · rw [HZ.out]
      exact ((HI.out.setCell (by show w.heap.size + 1 + 1 < _; omega) _).setCell (by show w.heap.size + 1 + 1 < _; omega) _).mono (by omega) (by omega)

end Go.Proofs.YtogdchddmjokmaaGreatDoor

namespace Go.Proofs.YtogdchddmjokmaaGreatDoor
open Go.RowKit Lm
set_option linter.unusedSimpArgs false
set_option linter.unusedVariables false
set_option maxRecDepth 100000

theorem toV_form (z : Int) : ∃ p b, toV z = .tuple #[.int .i64 p, .bool b] := by
  unfold toV
  split
  · exact ⟨_, _, rfl⟩
  · exact ⟨_, _, rfl⟩

/-- A box that stands behind a call. -/
theorem box_next {w w' : World} {b : Nat} {x y : Value} (h : Box w b x y) (hb : Below w.heap.size w w') : Box w' b x y ∧ w'.cell? ⟨b, 0, none⟩ = some x ∧ w'.cell? ⟨b, 1, none⟩ = some y := ⟨h.keep hb, (h.keep hb).c0, (h.keep hb).c1⟩

end Go.Proofs.YtogdchddmjokmaaGreatDoor

namespace Go.Proofs.YtogdchddmjokmaaGreatDoor
open Go.RowKit Lm
set_option linter.unusedSimpArgs false
set_option linter.unusedVariables false
set_option maxRecDepth 100000

structure Env (W0 W : World) (B : List (Nat × Value × Value)) (KA KI : List (Value × Nat × Int)) : Prop where
  bx : ∀ p ∈ B, Box W p.1 p.2.1 p.2.2
  a : ∀ p ∈ KA, Arg W p.1 p.2.1 p.2.2
  i : ∀ p ∈ KI, Is W 0 p.1 p.2.1 p.2.2
  bl : Below W0.heap.size W0 W

variable {W0 W W' : World} {B : List (Nat × Value × Value)} {KA KI : List (Value × Nat × Int)} {u v : Value} {n m : Nat} {x y : Int}

theorem Env.step (E : Env W0 W B KA KI) (hb : Below W.heap.size W W') : Env W0 W' B KA KI :=
  ⟨fun p hp => (E.bx p hp).keep hb, fun p hp => (E.a p hp).below hb, fun p hp => (E.i p hp).below hb, below_call E.bl hb E.bl.size⟩
theorem Env.drew (E : Env W0 W B KA KI) : Env W0 W.drew B KA KI :=
  ⟨fun p hp => (E.bx p hp).drew, fun p hp => E.a p hp, fun p hp => (E.i p hp).drew, E.bl.drew⟩
theorem Env.alloc (E : Env W0 W B KA KI) (o : Obj) : Env W0 (W.alloc o) B KA KI := E.step ((Below.refl _ _).alloc (Nat.le_refl _) o)
theorem Env.box (E : Env W0 W B KA KI) (x y : Value) : Env W0 (W.alloc (.cells #[x, y] 24)) ((W.heap.size, x, y) :: B) KA KI := by
  have E2 := E.alloc (.cells #[x, y] 24)
  refine ⟨fun p hp => ?_, E2.a, E2.i, E2.bl⟩
  rcases List.mem_cons.1 hp with rfl | h
  · exact Box.new W x y _ rfl
  · exact E2.bx p h
theorem Env.next {lo : Nat} (E : Env W0 W B KA KI) (hb : Below W.heap.size W W') (hI : Is W' lo v n x) : Env W0 W' B ((v, n, x) :: KA) ((v, n, x) :: KI) := by
  have E2 := E.step hb
  refine ⟨E2.bx, fun p hp => ?_, fun p hp => ?_, E2.bl⟩
  · rcases List.mem_cons.1 hp with rfl | h
    · exact hI.arg
    · exact E2.a p h
  · rcases List.mem_cons.1 hp with rfl | h
    · exact hI.mono (Nat.zero_le _) (Nat.le_refl _)
    · exact E2.i p h
theorem Env.know (E : Env W0 W B KA KI) (h : Arg W v n x) : Env W0 W B ((v, n, x) :: KA) KI := by
  refine ⟨E.bx, fun p hp => ?_, E.i, E.bl⟩
  rcases List.mem_cons.1 hp with rfl | h'
  · exact h
  · exact E.a p h'

/-- A number has been told. -/
def Says (W0 : World) (B : List (Nat × Value × Value)) (KA KI : List (Value × Nat × Int)) (n : Nat) (x : Int) (e : Ending) (w' : World) : Prop :=
  ∃ neg ao k cap, e = .returned (.agg #[.bool neg, .slice ao k cap]) ∧ Env W0 w' B ((.agg #[.bool neg, .slice ao k cap], n, x) :: KA) ((.agg #[.bool neg, .slice ao k cap], n, x) :: KI)

theorem says_of {lo n : Nat} {e : Ending} (E : Env W0 W B KA KI) (h : Told lo n x W e W') : Says W0 B KA KI n x e W' := by
  obtain ⟨neg, ao, k, cap, rfl, hI, hb⟩ := h
  exact ⟨neg, ao, k, cap, rfl, E.next hb hI⟩

theorem env_of (E : Env W0 W B KA KI) (x : Int) (h1 : -9223372036854775808 ≤ x) (h2 : x ≤ 9223372036854775807) : Calls Tryz.prog 30 #[.int .i64 x] W (Says W0 B KA KI 2 x) :=
  (of_num W x h1 h2).mono fun _ _ h => says_of E h
theorem env_add (E : Env W0 W B KA KI) (hu : (u, n, x) ∈ KA) (hv : (v, m, y) ∈ KA) (hn : n ≤ 1000000) (hm : m ≤ 1000000) : Calls Tryz.prog 59 #[u, v] W (Says W0 B KA KI (n + m + 1) (x + y)) :=
  (add_num W u v n m x y (E.a _ hu) (E.a _ hv) hn hm).mono fun _ _ h => says_of E h
theorem env_sub (E : Env W0 W B KA KI) (hu : (u, n, x) ∈ KA) (hv : (v, m, y) ∈ KA) (hn : n ≤ 1000000) (hm : m ≤ 1000000) : Calls Tryz.prog 29 #[u, v] W (Says W0 B KA KI (n + m + 1) (x - y)) :=
  (sub_num W u v n m x y (E.a _ hu) (E.a _ hv) hn hm).mono fun _ _ h => says_of E h
theorem env_mul (E : Env W0 W B KA KI) (hu : (u, n, x) ∈ KA) (hv : (v, m, y) ∈ KA) (hn : n ≤ 500000) (hm : m ≤ 500000) : Calls Tryz.prog 60 #[u, v] W (Says W0 B KA KI (n + m) (x * y)) :=
  (mul_num W u v n m x y (E.a _ hu) (E.a _ hv) hn hm).mono fun _ _ h => says_of E h
/-- Two that are one are said to be the same. -/
theorem env_same (E : Env W0 W B KA KI) (hu : (u, n, x) ∈ KI) (hv : (v, m, y) ∈ KI) (hxy : x = y) : Calls Tryz.prog 14 #[u, v] W fun e w' => e = .returned (.bool true) ∧ Env W0 w' B KA KI := by
  refine (same_num W u v n m 0 0 x y (E.i _ hu) (E.i _ hv)).mono ?_
  rintro e w' ⟨rfl, hb⟩
  exact ⟨by rw [decide_eq_true hxy], E.step hb⟩
theorem env_text (E : Env W0 W B KA KI) (hu : (u, n, x) ∈ KA) (hn : n ≤ 1000000) : Calls Tryz.prog 22 #[u] W fun e w' => e = .returned (.string (str (textOf x))) ∧ Env W0 w' B KA KI := by
  refine (text_num W u n x (E.a _ hu) hn).mono ?_
  rintro e w' ⟨rfl, hb⟩
  exact ⟨rfl, E.step hb⟩
theorem env_num (E : Env W0 W B KA KI) (x : Int) : Calls Tryz.prog 11 #[.int .i64 x] W fun e w' => e = .returned (.int .i64 x) ∧ Env W0 w' B KA KI := by
  refine (num_any W x).mono ?_
  rintro e w' ⟨rfl, rfl⟩
  exact ⟨rfl, E⟩

theorem arg_zero (W : World) : Arg W (.agg #[.bool false, .slice none 0 0]) 0 0 :=
  ⟨false, _, [], rfl, ⟨none, 0, rfl, ok_nil, by simp, by unfold maxLen; omega, .inl ⟨rfl, fun _ => rfl⟩⟩, by simp, by simp [mean, mayB, sgn, val]⟩
theorem arg_mk {W : World} {neg : Bool} {ao : Option Addr} {cap : Nat} {l : List Nat} (h : SlAt W ao cap l) : Arg W (.agg #[.bool neg, .slice ao l.length cap]) l.length (mean neg l) := ⟨neg, _, l, rfl, ⟨ao, cap, rfl, h⟩, Nat.le_refl _, rfl⟩

end Go.Proofs.YtogdchddmjokmaaGreatDoor
