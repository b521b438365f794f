/-
  Walks: the law ExtFolds.
-/
import Derived.Test.YtalblhcfkfockaaX11
namespace Go.Proofs.Ytalblhcfkfockaa
open Go.RowKit Lm
set_option linter.unusedSimpArgs false
set_option linter.unusedVariables false
set_option maxRecDepth 100000

/-- Elements of a slice, ready to be handed on. -/
def Els (w : World) (b off : Nat) (S : List EX) : Prop := ∀ i (h : i < S.length), ∃ k n1 a1 k1 c1 n2 a2 k2 c2, At5 w b (off + i * 5) (.int .i64 k) (.bool n1) (.slice a1 k1 c1) (.bool n2) (.slice a2 k2 c2) ∧ EArg w (.agg #[.int .i64 k, .bool n1, .slice a1 k1 c1, .bool n2, .slice a2 k2 c2]) 6 S[i]

/-- What stands at the head of the first loop's round. -/
def FoldRel (w : World) (S : List EX) (g3 g4 g5 g6 : Nat) (iv : Value) (wr : World) : Prop :=
  ∃ (i : Nat) (xa xb xc xd : EX), i ≤ S.length ∧ iv = .int .i64 (i : Int) ∧ Four w wr g3 g4 g5 g6 (0 < i) (0 < i) (0 < i) (0 < i) xa xb xc xd ∧ Hid (Top S i xa ∧ TopR S i xb ∧ Low S i xc ∧ LowR S i xd)
/-- Behind the four variables' making. -/
def FoldCut (w : World) (x y : EX) (p3 p4 p5 p6 : Value) (wc : World) : Prop :=
  ∃ g3 g4 g5 g6, p3 = .pointer (some ⟨g3, 0, none⟩) ∧ p4 = .pointer (some ⟨g4, 0, none⟩) ∧ p5 = .pointer (some ⟨g5, 0, none⟩) ∧ p6 = .pointer (some ⟨g6, 0, none⟩) ∧ Four w wc g3 g4 g5 g6 False False False False x y x y

theorem keepEE {w W : World} {b o o' : Nat} {p q r s t p' q' r' s' t' : Value} (h : At5 w b o p q r s t) (h' : At5 w b o' p' q' r' s' t') (hl : b < w.heap.size) (hb : Below w.heap.size w W) :
    W.cell? ⟨b, o, none⟩ = some p ∧ W.cell? ⟨b, o + 1, none⟩ = some q ∧ W.cell? ⟨b, o + 2, none⟩ = some r ∧ W.cell? ⟨b, o + 3, none⟩ = some s ∧ W.cell? ⟨b, o + 4, none⟩ = some t ∧ W.cell? ⟨b, o', none⟩ = some p' ∧ W.cell? ⟨b, o' + 1, none⟩ = some q' ∧ W.cell? ⟨b, o' + 2, none⟩ = some r' ∧ W.cell? ⟨b, o' + 3, none⟩ = some s' ∧ W.cell? ⟨b, o' + 4, none⟩ = some t' := by
  obtain ⟨a1, a2, a3, a4, a5⟩ := h.below hl hb
  obtain ⟨b1, b2, b3, b4, b5⟩ := h'.below hl hb
  exact ⟨a1, a2, a3, a4, a5, b1, b2, b3, b4, b5⟩
theorem Box5.drewY {w : World} {b : Nat} {k p q r s : Value} (h : Box5 w b k p q r s) : Box5 w.drew b k p q r s := h
theorem mkBx {w W : World} {g : Nat} {x : EX} {k : Int} {n1 n2 : Bool} {a1 a2 : Option Addr} {k1 c1 k2 c2 : Nat} (h : Box5 W g (.int .i64 k) (.bool n1) (.slice a1 k1 c1) (.bool n2) (.slice a2 k2 c2)) (hE : EArg w (.agg #[.int .i64 k, .bool n1, .slice a1 k1 c1, .bool n2, .slice a2 k2 c2]) 6 x) (hb : Below w.heap.size w W) : Bx W g False x :=
  ⟨k, n1, a1, k1, c1, n2, a2, k2, c2, h, hE.below hb, fun h => h.elim⟩
theorem four_mk {w w1 W : World} {g3 g4 g5 g6 : Nat} {x y : EX} {k z : Int} {n1 n2 n3 n4 : Bool} {a1 a2 a3 a4 : Option Addr} {k1 c1 k2 c2 k3 c3 k4 c4 : Nat} (hb1 : Below w.heap.size w w1)
    (EA : EArg w1 (.agg #[.int .i64 k, .bool n1, .slice a1 k1 c1, .bool n2, .slice a2 k2 c2]) 6 x) (EL : EArg w1 (.agg #[.int .i64 z, .bool n3, .slice a3 k3 c3, .bool n4, .slice a4 k4 c4]) 6 y)
    (h3 : Box5 W g3 (.int .i64 k) (.bool n1) (.slice a1 k1 c1) (.bool n2) (.slice a2 k2 c2)) (h4 : Box5 W g4 (.int .i64 z) (.bool n3) (.slice a3 k3 c3) (.bool n4) (.slice a4 k4 c4)) (h5 : Box5 W g5 (.int .i64 k) (.bool n1) (.slice a1 k1 c1) (.bool n2) (.slice a2 k2 c2)) (h6 : Box5 W g6 (.int .i64 z) (.bool n3) (.slice a3 k3 c3) (.bool n4) (.slice a4 k4 c4))
    (hbN : Below w1.heap.size w1 W) (l3 : w1.heap.size ≤ g3) (l4 : w1.heap.size ≤ g4) (l5 : w1.heap.size ≤ g5) (l6 : w1.heap.size ≤ g6) (ne : g3 ≠ g4 ∧ g3 ≠ g5 ∧ g3 ≠ g6 ∧ g4 ≠ g5 ∧ g4 ≠ g6 ∧ g5 ≠ g6) : FoldCut w x y (.pointer (some ⟨g3, 0, none⟩)) (.pointer (some ⟨g4, 0, none⟩)) (.pointer (some ⟨g5, 0, none⟩)) (.pointer (some ⟨g6, 0, none⟩)) W :=
  ⟨g3, g4, g5, g6, rfl, rfl, rfl, rfl, mkBx h3 EA hbN, mkBx h4 EL hbN, mkBx h5 EA hbN, mkBx h6 EL hbN, below_call hb1 hbN hb1.size, Nat.le_trans hb1.size l3, Nat.le_trans hb1.size l4, Nat.le_trans hb1.size l5, Nat.le_trans hb1.size l6, ne⟩
theorem Bx.imp {W : World} {g : Nat} {T S : Prop} {x : EX} (h : Bx W g T x) (hs : S → T) : Bx W g S x := by
  obtain ⟨k, n1, a1, k1, c1, n2, a2, k2, c2, h1, h2, h3⟩ := h
  exact ⟨k, n1, a1, k1, c1, n2, a2, k2, c2, h1, h2, fun t => h3 (hs t)⟩
theorem Four.all {w W : World} {g3 g4 g5 g6 : Nat} {T : Prop} {xa xb xc xd : EX} (F : Four w W g3 g4 g5 g6 True True True True xa xb xc xd) : Four w W g3 g4 g5 g6 T T T T xa xb xc xd :=
  ⟨F.a.imp (fun _ => trivial), F.b.imp (fun _ => trivial), F.c.imp (fun _ => trivial), F.d.imp (fun _ => trivial), F.bl, F.l3, F.l4, F.l5, F.l6, F.ne⟩
theorem keep555 {w W : World} {g h b o : Nat} {k p q r s k' p' q' r' s' k2 p2 q2 r2 s2 : Value} (h1 : Box5 w g k p q r s) (h2 : Box5 w h k' p' q' r' s') (h3 : At5 w b o k2 p2 q2 r2 s2) (hl : b < w.heap.size) (hb : Below w.heap.size w W) :
    W.cell? ⟨g, 0, none⟩ = some k ∧ W.cell? ⟨g, 1, none⟩ = some p ∧ W.cell? ⟨g, 2, none⟩ = some q ∧ W.cell? ⟨g, 3, none⟩ = some r ∧ W.cell? ⟨g, 4, none⟩ = some s ∧ W.cell? ⟨h, 0, none⟩ = some k' ∧ W.cell? ⟨h, 1, none⟩ = some p' ∧ W.cell? ⟨h, 2, none⟩ = some q' ∧ W.cell? ⟨h, 3, none⟩ = some r' ∧ W.cell? ⟨h, 4, none⟩ = some s' ∧ W.cell? ⟨b, o, none⟩ = some k2 ∧ W.cell? ⟨b, o + 1, none⟩ = some p2 ∧ W.cell? ⟨b, o + 2, none⟩ = some q2 ∧ W.cell? ⟨b, o + 3, none⟩ = some r2 ∧ W.cell? ⟨b, o + 4, none⟩ = some s2 := by
  obtain ⟨a1, a2, a3, a4, a5⟩ := (h1.keep hb).c
  obtain ⟨b1, b2, b3, b4, b5⟩ := (h2.keep hb).c
  obtain ⟨c1, c2, c3, c4, c5⟩ := h3.below hl hb
  exact ⟨a1, a2, a3, a4, a5, b1, b2, b3, b4, b5, c1, c2, c3, c4, c5⟩
theorem same_ef (W : World) (u v : Value) (n m : Nat) (x : EX) (hu : EF W u n x) (hv : EF W v m x) : Calls Try.prog 13 #[u, v] W fun e w' => e = .returned (.bool true) ∧ Below W.heap.size W w' := by
  obtain ⟨m1, p1, j1, d1, m2, p2, j2, d2, rfl, h1⟩ := hu
  obtain ⟨m3, p3, j3, d3, m4, p4, j4, d4, rfl, h2⟩ := hv
  exact sameExt_any W x n m m1 p1 j1 d1 m2 p2 j2 d2 m3 p3 j3 d3 m4 p4 j4 d4 h1 h2
set_option maxHeartbeats 12800000 in
theorem folds_main (w : World) (b off cap : Nat) (S : List EX) (N : Nat) (hN : N = S.length) (h1 : 1 ≤ N) (h2 : N ≤ 40) (hcap : N ≤ cap) (hcm : cap ≤ 9223372036854775807) (hbw : b < w.heap.size) (hE : Els w b off S) (hB : ∀ x ∈ S, EB 6 x)
    (hG : ∀ W, Below w.heap.size w W → Calls Try.prog 8 #[.slice (some ⟨b, off, none⟩) N cap] W fun e w' => e = .returned (.bool false) ∧ Below W.heap.size W w') :
    Calls Try.prog 3 #[.slice (some ⟨b, off, none⟩) N cap] w fun e w' => e = .returned (.bool true) ∧ Below w.heap.size w w' := by
  obtain ⟨M, rfl⟩ : ∃ M, N = M + 1 := ⟨N - 1, by omega⟩
  have i1 : ¬ (40 : Int) < (M : Int) + 1 := by omega
  have i2 : ((M : Int) + 1 == 0) = false := by simp; omega
  have i3 : (0 : Int) < (M : Int) + 1 := by omega
  have i6 : (M : Int) < (M : Int) + 1 := by omega
  have i7 : (0 : Int) ≤ (M : Int) := by omega
  have i8 : (M : Int) + 1 ≤ (cap : Int) := by omega
  have i9 : IntKind.i64.wrap (M : Int) = (M : Int) := by rw [IntKind.wrap_i64]; omega
  have HN := hid hN
  have HG := hid hG
  have HE := hid hE
  have HB := hid hB
  clear hN hG hE hB
  go_enter Try.func3, Try.ntmps3
  go_wp2_with fail
  refine (HG.out _ (Below.refl _ _)).mono ?_
  rintro e w1 ⟨rfl, hb1⟩
  have hS0 : 0 < S.length := by have := HN.out; omega
  have hSM : M < S.length := by have := HN.out; omega
  obtain ⟨k, n1, a1, k1, c1, n2, a2, k2, c2, ⟨p0, p1, p2, p3, p4⟩, EA⟩ := HE.out 0 hS0
  obtain ⟨z, n3, a3, k3, c3, n4, a4, k4, c4, ⟨q0, q1, q2, q3, q4⟩, EL⟩ := HE.out M hSM
  simp only [Nat.zero_mul, Nat.add_zero] at p0 p1 p2 p3 p4
  have HM0 := hid (List.getElem_mem hS0)
  have HM1 := hid (List.getElem_mem hSM)
  generalize S[0] = x0 at *
  generalize S[M] = x1 at *
  have hbw1 : b < w1.heap.size := Nat.lt_of_lt_of_le hbw hb1.size
  have A0 : At5 w1 b off (.int .i64 k) (.bool n1) (.slice a1 k1 c1) (.bool n2) (.slice a2 k2 c2) := At5.below ⟨p0, p1, p2, p3, p4⟩ hbw hb1
  have A1 : At5 w1 b (off + M * 5) (.int .i64 z) (.bool n3) (.slice a3 k3 c3) (.bool n4) (.slice a4 k4 c4) := At5.below ⟨q0, q1, q2, q3, q4⟩ hbw hb1
  clear p0 p1 p2 p3 p4 q0 q1 q2 q3 q4
  obtain ⟨p0, p1, p2, p3, p4⟩ := id A0
  obtain ⟨q0, q1, q2, q3, q4⟩ := id A1
  have EA1 := EA.below hb1
  have EL1 := EL.below hb1
  go_wp2_with fail
  go_cut [3, 4, 5, 6] (fun p3 p4 p5 p6 wc => FoldCut w x0 x1 p3 p4 p5 p6 wc)
  case first =>
    as_aux_lemma =>
      go_region_held3 (fun W' => W'.cell? ⟨b, off, none⟩ = some (.int .i64 k) ∧ W'.cell? ⟨b, off + 1, none⟩ = some (.bool n1) ∧ W'.cell? ⟨b, off + 2, none⟩ = some (.slice a1 k1 c1) ∧ W'.cell? ⟨b, off + 3, none⟩ = some (.bool n2) ∧ W'.cell? ⟨b, off + 4, none⟩ = some (.slice a2 k2 c2) ∧ W'.cell? ⟨b, off + M * 5, none⟩ = some (.int .i64 z) ∧ W'.cell? ⟨b, off + M * 5 + 1, none⟩ = some (.bool n3) ∧ W'.cell? ⟨b, off + M * 5 + 2, none⟩ = some (.slice a3 k3 c3) ∧ W'.cell? ⟨b, off + M * 5 + 3, none⟩ = some (.bool n4) ∧ W'.cell? ⟨b, off + M * 5 + 4, none⟩ = some (.slice a4 k4 c4)) ((refine keepEE A0 A1 hbw1 ?_; repeat (first | exact Below.refl _ _ | refine Below.drew ?_ | (refine Below.alloc ?_ ?_ _; rotate_left; (focus (first | exact Nat.le_refl _ | (simp; done) | (simp; omega)))) | (refine Below.setCell ?_ ?_ _; rotate_left; (focus (first | omega | (simp; done) | (simp; omega))))))) (fail)
      all_goals
        go_wp2_with fail
        go_meet
        refine four_mk hb1 EA1 EL1 ?_ ?_ ?_ ?_ ?_ ?_ ?_ ?_ ?_ ?_
        · focus ((repeat (first | refine Box5.drewY ?_ | (refine Box5.new _ _ _ _ _ _ _ ?_; (focus (simp; done))) | refine Box5.alloc ?_ _)))
        · focus ((repeat (first | refine Box5.drewY ?_ | (refine Box5.new _ _ _ _ _ _ _ ?_; (focus (simp; done))) | refine Box5.alloc ?_ _)))
        · focus ((repeat (first | refine Box5.drewY ?_ | (refine Box5.new _ _ _ _ _ _ _ ?_; (focus (simp; done))) | refine Box5.alloc ?_ _)))
        · focus ((repeat (first | refine Box5.drewY ?_ | (refine Box5.new _ _ _ _ _ _ _ ?_; (focus (simp; done))) | refine Box5.alloc ?_ _)))
        · exact (((((Below.refl _ w1).alloc (Nat.le_refl _) _).alloc (by simp) _).alloc (by simp) _).alloc (by simp) _).drew
        · omega
        · omega
        · omega
        · omega
        · omega
  case rest =>
    obtain ⟨g3, g4, g5, g6, rfl, rfl, rfl, rfl, F0⟩ := hcut
    clear p0 p1 p2 p3 p4 q0 q1 q2 q3 q4 EA1 EL1 A0 A1
    go_wp2_with fail
    go_loopw [7] (fun iv wr => FoldRel w S g3 g4 g5 g6 iv wr) (fun iv wr => M + 1 - (intOf iv).toNat)
    case atStart => exact ⟨0, x0, x1, x0, x1, Nat.zero_le _, rfl, ⟨F0.a.imp (fun h => absurd h (by omega)), F0.b.imp (fun h => absurd h (by omega)), F0.c.imp (fun h => absurd h (by omega)), F0.d.imp (fun h => absurd h (by omega)), F0.bl, F0.l3, F0.l4, F0.l5, F0.l6, F0.ne⟩, hid ⟨⟨HM0.out, fun j hj h => by omega⟩, ⟨HM1.out, fun j hj h => by omega⟩, ⟨HM0.out, fun j hj h => by omega⟩, ⟨HM1.out, fun j hj h => by omega⟩⟩⟩
    case round =>
      obtain ⟨i, xa, xb, xc, xd, hi, rfl, F, HT⟩ := hrel
      by_cases hlt : i < M + 1
      · have hiS : i < S.length := by have := HN.out; omega
        obtain ⟨c, hc⟩ : ∃ c, c = M - i := ⟨_, rfl⟩
        have hcS : c < S.length := by have := HN.out; omega
        have hcl : c < M + 1 := by omega
        have hii : (i : Int) < (M : Int) + 1 := by omega
        have hi0 : (0 : Int) ≤ (i : Int) := by omega
        have hc1 : (M : Int) - (i : Int) = (c : Int) := by omega
        have hc2 : IntKind.i64.wrap (c : Int) = (c : Int) := by rw [IntKind.wrap_i64]; omega
        have hci : (c : Int) < (M : Int) + 1 := by omega
        have hc0 : (0 : Int) ≤ (c : Int) := by omega
        obtain ⟨yk, yn1, ya1, yk1, yc1, yn2, ya2, yk2, yc2, hyA, hyE⟩ := HE.out i hiS
        obtain ⟨zk, zn1, za1, zk1, zc1, zn2, za2, zk2, zc2, hzA, hzE⟩ := HE.out c hcS
        have HNX := hid (⟨HT.out.1.next hiS, HT.out.2.1.next hiS (show c = S.length - 1 - i by have := HN.out; omega) hcS, HT.out.2.2.1.next hiS, HT.out.2.2.2.next hiS (show c = S.length - 1 - i by have := HN.out; omega) hcS⟩ : Top S (i + 1) (maxE xa S[i]) ∧ TopR S (i + 1) (maxE S[c] xb) ∧ Low S (i + 1) (minE xc S[i]) ∧ LowR S (i + 1) (minE S[c] xd))
        have HYS := hid (List.getElem_mem hiS)
        have HZS := hid (List.getElem_mem hcS)
        generalize S[i] = y at *
        generalize S[c] = z at *
        have HAy := hid (And.intro hyA hyE)
        have HAz := hid (And.intro hzA hzE)
        clear hyA hyE hzA hzE hc
        go_wp2_with fail
        go_cut [] (fun w7 => Four w w7 g3 g4 g5 g6 True (0 < i) (0 < i) (0 < i) (maxE xa y) xb xc xd)
        case first =>
          obtain ⟨bk, bn1, ba1, bk1, bc1, bn2, ba2, bk2, bc2, hb5, hBE, -⟩ := F.a
          obtain ⟨s0, s1, s2, s3, s4⟩ := hb5.c
          obtain ⟨e0, e1, e2, e3, e4⟩ := HAy.out.1.below hbw F.bl
          have hEE := HAy.out.2.below F.bl
          go_region_with (go_at_call 10; refine (extMax_any _ _ _ 6 xa y ?_ ?_ (by omega)).mono ?_; (focus (exact hBE)); (focus (exact hEE)); rintro e w2 ⟨m1, p1, j1, d1, m2, p2, j2, d2, rfl, hI, hbn⟩; (first | replace hbn := below_undrew hbn | skip); have hw5 := hb5.keep hbn; obtain ⟨t0, t1, t2, t3, t4⟩ := hw5.c; have tf := hw5.f; have tl := hw5.lt)
          all_goals (go_wp2_with fail; go_meet; (try rw [fill5_eq]); exact (F.keep hbn).fillA hI (HB.out _ (max_in HT.out.1.1 HYS.out)))
        case rest =>
          clear F
          have F := hcut
          clear hcut
          go_wp2_with fail
          go_cut [] (fun w8 => Four w w8 g3 g4 g5 g6 True True (0 < i) (0 < i) (maxE xa y) (maxE z xb) xc xd)
          case first =>
            obtain ⟨bk, bn1, ba1, bk1, bc1, bn2, ba2, bk2, bc2, hb5, hBE, -⟩ := F.b
            obtain ⟨s0, s1, s2, s3, s4⟩ := hb5.c
            obtain ⟨e0, e1, e2, e3, e4⟩ := HAz.out.1.below hbw F.bl
            have hEE := HAz.out.2.below F.bl
            go_region_with (go_at_call 10; refine (extMax_any _ _ _ 6 z xb ?_ ?_ (by omega)).mono ?_; (focus (exact hEE)); (focus (exact hBE)); rintro e w2 ⟨m1, p1, j1, d1, m2, p2, j2, d2, rfl, hI, hbn⟩; (first | replace hbn := below_undrew hbn | skip); have hw5 := hb5.keep hbn; obtain ⟨t0, t1, t2, t3, t4⟩ := hw5.c; have tf := hw5.f; have tl := hw5.lt)
            all_goals (go_wp2_with fail; go_meet; (try rw [fill5_eq]); exact (F.keep hbn).fillB hI (HB.out _ (max_in HZS.out HT.out.2.1.1)))
          case rest =>
            clear F
            have F := hcut
            clear hcut
            go_wp2_with fail
            go_cut [] (fun w9 => Four w w9 g3 g4 g5 g6 True True True (0 < i) (maxE xa y) (maxE z xb) (minE xc y) xd)
            case first =>
              obtain ⟨bk, bn1, ba1, bk1, bc1, bn2, ba2, bk2, bc2, hb5, hBE, -⟩ := F.c
              obtain ⟨s0, s1, s2, s3, s4⟩ := hb5.c
              obtain ⟨e0, e1, e2, e3, e4⟩ := HAy.out.1.below hbw F.bl
              have hEE := HAy.out.2.below F.bl
              go_region_with (go_at_call 11; refine (extMin_any _ _ _ 6 xc y ?_ ?_ (by omega)).mono ?_; (focus (exact hBE)); (focus (exact hEE)); rintro e w2 ⟨m1, p1, j1, d1, m2, p2, j2, d2, rfl, hI, hbn⟩; (first | replace hbn := below_undrew hbn | skip); have hw5 := hb5.keep hbn; obtain ⟨t0, t1, t2, t3, t4⟩ := hw5.c; have tf := hw5.f; have tl := hw5.lt)
              all_goals (go_wp2_with fail; go_meet; (try rw [fill5_eq]); exact (F.keep hbn).fillC hI (HB.out _ (min_in HT.out.2.2.1.1 HYS.out)))
            case rest =>
              clear F
              have F := hcut
              clear hcut
              go_wp2_with fail
              obtain ⟨bk, bn1, ba1, bk1, bc1, bn2, ba2, bk2, bc2, hb5, hBE, -⟩ := F.d
              obtain ⟨s0, s1, s2, s3, s4⟩ := hb5.c
              obtain ⟨e0, e1, e2, e3, e4⟩ := HAz.out.1.below hbw F.bl
              have hEE := HAz.out.2.below F.bl
              go_region_with (go_at_call 11; refine (extMin_any _ _ _ 6 z xd ?_ ?_ (by omega)).mono ?_; (focus (exact hEE)); (focus (exact hBE)); rintro e w2 ⟨m1, p1, j1, d1, m2, p2, j2, d2, rfl, hI, hbn⟩; (first | replace hbn := below_undrew hbn | skip); have hw5 := hb5.keep hbn; obtain ⟨t0, t1, t2, t3, t4⟩ := hw5.c; have tf := hw5.f; have tl := hw5.lt)
              all_goals
                go_wp2_with fail
                (try rw [fill5_eq])
                have HF := hid ((F.keep hbn).fillD hI (HB.out _ (min_in HZS.out HT.out.2.2.2.1)))
                go_roundw
                case rel => exact ⟨i + 1, _, _, _, _, by have := HN.out; omega, by go_num, HF.out.all, HNX⟩
                case measure => simp [intOf]; omega
      · obtain rfl : i = M + 1 := by have := HN.out; omega
        rw [show ((M + 1 : Nat) : Int) = (M : Int) + 1 by omega]
        have hfin := HT.out
        have hSl : M + 1 = S.length := HN.out
        rw [hSl] at hfin
        have HAB := hid (top_one hfin.1 hfin.2.1)
        have HCD := hid (low_one hfin.2.2.1 hfin.2.2.2)
        have HTA := hid hfin.1.2
        have HTC := hid hfin.2.2.1.2
        have F2 : Four w wr g3 g4 g5 g6 True True True True xa xb xc xd := ⟨F.a.imp (fun _ => by omega), F.b.imp (fun _ => by omega), F.c.imp (fun _ => by omega), F.d.imp (fun _ => by omega), F.bl, F.l3, F.l4, F.l5, F.l6, F.ne⟩
        clear F F0 hfin hSl HT
        rename World => wo
        go_wp2_with fail
        go_loopw [8] (fun iv wr => ∃ i : Nat, i ≤ M + 1 ∧ iv = .int .i64 (i : Int) ∧ Four w wr g3 g4 g5 g6 True True True True xa xb xc xd) (fun iv wr => M + 1 - (intOf iv).toNat)
        case atStart => exact ⟨0, Nat.zero_le _, rfl, F2⟩
        case round =>
          clear F2
          obtain ⟨i, hi, rfl, F⟩ := hrel
          by_cases hlt : i < M + 1
          · have hiS : i < S.length := by have := HN.out; omega
            have hii : (i : Int) < (M : Int) + 1 := by omega
            have hi0 : (0 : Int) ≤ (i : Int) := by omega
            obtain ⟨yk, yn1, ya1, yk1, yc1, yn2, ya2, yk2, yc2, hyA, hyE⟩ := HE.out i hiS
            have q1 := HTA.out i hiS hiS
            have q2 := HTC.out i hiS hiS
            generalize S[i] = y at *
            have q3 : 0 ≤ cmpE y xc := by have := cmpE_swap xc y; omega
            obtain ⟨f1, hf1⟩ : ∃ f1, cmpE y xa = f1 := ⟨_, rfl⟩
            obtain ⟨f2, hf2⟩ : ∃ f2, cmpE y xc = f2 := ⟨_, rfl⟩
            rw [hf1] at q1
            rw [hf2] at q3
            clear q2
            have HF1 := hid hf1
            have HF2 := hid hf2
            have d1 : decide ((0 : Int) < f1) = false := by simp; omega
            have d2 : decide (f2 < (0 : Int)) = false := by simp; omega
            clear hf1 hf2
            obtain ⟨bk, bn1, ba1, bk1, bc1, bn2, ba2, bk2, bc2, hb5, hBE, -⟩ := F.a
            obtain ⟨ck, cn1, ca1, ck1, cc1, cn2, ca2, ck2, cc2, hc5, hCE, -⟩ := F.c
            have hAt := hyA.below hbw F.bl
            have hEE := hyE.below F.bl
            have ley : b < wr.heap.size := Nat.lt_of_lt_of_le hbw F.bl.size
            clear hyA hyE
            go_wp2_with fail
            go_region_held3 (fun W' => W'.cell? ⟨g3, 0, none⟩ = some (.int .i64 bk) ∧ W'.cell? ⟨g3, 1, none⟩ = some (.bool bn1) ∧ W'.cell? ⟨g3, 2, none⟩ = some (.slice ba1 bk1 bc1) ∧ W'.cell? ⟨g3, 3, none⟩ = some (.bool bn2) ∧ W'.cell? ⟨g3, 4, none⟩ = some (.slice ba2 bk2 bc2) ∧ W'.cell? ⟨g5, 0, none⟩ = some (.int .i64 ck) ∧ W'.cell? ⟨g5, 1, none⟩ = some (.bool cn1) ∧ W'.cell? ⟨g5, 2, none⟩ = some (.slice ca1 ck1 cc1) ∧ W'.cell? ⟨g5, 3, none⟩ = some (.bool cn2) ∧ W'.cell? ⟨g5, 4, none⟩ = some (.slice ca2 ck2 cc2) ∧ W'.cell? ⟨b, off + i * 5, none⟩ = some (.int .i64 yk) ∧ W'.cell? ⟨b, off + i * 5 + 1, none⟩ = some (.bool yn1) ∧ W'.cell? ⟨b, off + i * 5 + 2, none⟩ = some (.slice ya1 yk1 yc1) ∧ W'.cell? ⟨b, off + i * 5 + 3, none⟩ = some (.bool yn2) ∧ W'.cell? ⟨b, off + i * 5 + 4, none⟩ = some (.slice ya2 yk2 yc2)) ((refine keep555 hb5 hc5 hAt ley ?_; first | exact Below.refl _ _ | exact (Below.refl _ _).drew | exact hbn | exact hbn2)) (first | (go_at_call 12; refine (extCmp_V _ _ _ 6 6 y xa f1 ?_ ?_ HF1.out (by omega) (by omega)).mono ?_; (focus (exact hEE)); (focus (exact hBE)); rintro e w2 ⟨rfl, hbn⟩; (first | replace hbn := below_undrew hbn | skip)) | (go_at_call 12; refine (extCmp_V _ _ _ 6 6 y xc f2 ?_ ?_ HF2.out (by omega) (by omega)).mono ?_; (focus (exact hEE.below hbn)); (focus (exact hCE.below hbn)); rintro e w3 ⟨rfl, hbm⟩; have hbn2 := below_call hbn hbm hbn.size; have HFB := hid hbn2))
            all_goals
              go_wp2_with fail
              go_roundw
              case rel => exact ⟨i + 1, by omega, by go_num, F.keep HFB.out⟩
              case measure => simp [intOf]; omega
          · obtain rfl : i = M + 1 := by omega
            have hab := HAB.out
            have hcd := HCD.out
            clear HAB HCD HTA HTC hi hlt HE HB HG HM0 HM1
            subst hab
            subst hcd
            have hza : cmpE xa xa = 0 := by have := cmpE_swap xa xa; omega
            have hzc : cmpE xc xc = 0 := by have := cmpE_swap xc xc; omega
            obtain ⟨ak, an1, aa1, ak1, ac1, an2, aa2, ak2, ac2, ha5, hAE, hAF⟩ := F.a
            obtain ⟨bk, bn1, ba1, bk1, bc1, bn2, ba2, bk2, bc2, hb5, hBE, hBF⟩ := F.b
            obtain ⟨ck, cn1, ca1, ck1, cc1, cn2, ca2, ck2, cc2, hc5, hCE, hCF⟩ := F.c
            obtain ⟨dk, dn1, da1, dk1, dc1, dn2, da2, dk2, dc2, hd5, hDE, hDF⟩ := F.d
            have hAF := hAF trivial
            have hBF := hBF trivial
            have hCF := hCF trivial
            have hDF := hDF trivial
            have hbl := F.bl
            clear F
            obtain ⟨s0, s1, s2, s3, s4⟩ := ha5.c
            obtain ⟨t0, t1, t2, t3, t4⟩ := hb5.c
            obtain ⟨u0, u1, u2, u3, u4⟩ := hc5.c
            obtain ⟨v0, v1, v2, v3, v4⟩ := hd5.c
            go_wp2_with (first
              | (go_at_call 12; refine (extCmp_V _ _ _ 6 6 xa xa 0 ?_ ?_ hza (by omega) (by omega)).mono ?_; (focus (exact hAE)); (focus (exact hBE)); rintro e w2 ⟨rfl, hbn⟩; (replace ha5 := ha5.keep hbn; replace hb5 := hb5.keep hbn; replace hc5 := hc5.keep hbn; replace hd5 := hd5.keep hbn; replace hAE := hAE.below hbn; replace hBE := hBE.below hbn; replace hCE := hCE.below hbn; replace hDE := hDE.below hbn; replace hAF := hAF.below hbn; replace hBF := hBF.below hbn; replace hCF := hCF.below hbn; replace hDF := hDF.below hbn; replace hbl := below_call hbl hbn hbl.size; clear hbn s0 s1 s2 s3 s4 t0 t1 t2 t3 t4 u0 u1 u2 u3 u4 v0 v1 v2 v3 v4; obtain ⟨s0, s1, s2, s3, s4⟩ := ha5.c; obtain ⟨t0, t1, t2, t3, t4⟩ := hb5.c; obtain ⟨u0, u1, u2, u3, u4⟩ := hc5.c; obtain ⟨v0, v1, v2, v3, v4⟩ := hd5.c))
              | (go_at_call 12; refine (extCmp_V _ _ _ 6 6 xc xc 0 ?_ ?_ hzc (by omega) (by omega)).mono ?_; (focus (exact hCE)); (focus (exact hDE)); rintro e w3 ⟨rfl, hbn⟩; (replace ha5 := ha5.keep hbn; replace hb5 := hb5.keep hbn; replace hc5 := hc5.keep hbn; replace hd5 := hd5.keep hbn; replace hAE := hAE.below hbn; replace hBE := hBE.below hbn; replace hCE := hCE.below hbn; replace hDE := hDE.below hbn; replace hAF := hAF.below hbn; replace hBF := hBF.below hbn; replace hCF := hCF.below hbn; replace hDF := hDF.below hbn; replace hbl := below_call hbl hbn hbl.size; clear hbn s0 s1 s2 s3 s4 t0 t1 t2 t3 t4 u0 u1 u2 u3 u4 v0 v1 v2 v3 v4; obtain ⟨s0, s1, s2, s3, s4⟩ := ha5.c; obtain ⟨t0, t1, t2, t3, t4⟩ := hb5.c; obtain ⟨u0, u1, u2, u3, u4⟩ := hc5.c; obtain ⟨v0, v1, v2, v3, v4⟩ := hd5.c))
              | (go_at_call 13; refine (same_ef _ _ _ 6 6 xa ?_ ?_).mono ?_; (focus (exact hAF)); (focus (exact hBF)); rintro e w4 ⟨rfl, hbn⟩; (replace ha5 := ha5.keep hbn; replace hb5 := hb5.keep hbn; replace hc5 := hc5.keep hbn; replace hd5 := hd5.keep hbn; replace hAE := hAE.below hbn; replace hBE := hBE.below hbn; replace hCE := hCE.below hbn; replace hDE := hDE.below hbn; replace hAF := hAF.below hbn; replace hBF := hBF.below hbn; replace hCF := hCF.below hbn; replace hDF := hDF.below hbn; replace hbl := below_call hbl hbn hbl.size; clear hbn s0 s1 s2 s3 s4 t0 t1 t2 t3 t4 u0 u1 u2 u3 u4 v0 v1 v2 v3 v4; obtain ⟨s0, s1, s2, s3, s4⟩ := ha5.c; obtain ⟨t0, t1, t2, t3, t4⟩ := hb5.c; obtain ⟨u0, u1, u2, u3, u4⟩ := hc5.c; obtain ⟨v0, v1, v2, v3, v4⟩ := hd5.c))
              | (go_at_call 13; refine (same_ef _ _ _ 6 6 xc ?_ ?_).mono ?_; (focus (exact hCF)); (focus (exact hDF)); rintro e w5 ⟨rfl, hbn⟩; (replace ha5 := ha5.keep hbn; replace hb5 := hb5.keep hbn; replace hc5 := hc5.keep hbn; replace hd5 := hd5.keep hbn; replace hAE := hAE.below hbn; replace hBE := hBE.below hbn; replace hCE := hCE.below hbn; replace hDE := hDE.below hbn; replace hAF := hAF.below hbn; replace hBF := hBF.below hbn; replace hCF := hCF.below hbn; replace hDF := hDF.below hbn; replace hbl := below_call hbl hbn hbl.size; clear hbn s0 s1 s2 s3 s4 t0 t1 t2 t3 t4 u0 u1 u2 u3 u4 v0 v1 v2 v3 v4; obtain ⟨s0, s1, s2, s3, s4⟩ := ha5.c; obtain ⟨t0, t1, t2, t3, t4⟩ := hb5.c; obtain ⟨u0, u1, u2, u3, u4⟩ := hc5.c; obtain ⟨v0, v1, v2, v3, v4⟩ := hd5.c))
              | (go_at_call 9; refine (awake3_any _).mono ?_; rintro e w6 ⟨rfl, hbn⟩; (replace ha5 := ha5.keep hbn; replace hb5 := hb5.keep hbn; replace hc5 := hc5.keep hbn; replace hd5 := hd5.keep hbn; replace hAE := hAE.below hbn; replace hBE := hBE.below hbn; replace hCE := hCE.below hbn; replace hDE := hDE.below hbn; replace hAF := hAF.below hbn; replace hBF := hBF.below hbn; replace hCF := hCF.below hbn; replace hDF := hDF.below hbn; replace hbl := below_call hbl hbn hbl.size; clear hbn s0 s1 s2 s3 s4 t0 t1 t2 t3 t4 u0 u1 u2 u3 u4 v0 v1 v2 v3 v4; obtain ⟨s0, s1, s2, s3, s4⟩ := ha5.c; obtain ⟨t0, t1, t2, t3, t4⟩ := hb5.c; obtain ⟨u0, u1, u2, u3, u4⟩ := hc5.c; obtain ⟨v0, v1, v2, v3, v4⟩ := hd5.c)))
            go_ret
            exact ⟨rfl, hbl⟩

end Go.Proofs.Ytalblhcfkfockaa
