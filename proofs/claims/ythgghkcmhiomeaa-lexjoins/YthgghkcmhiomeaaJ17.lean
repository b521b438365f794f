/-
  Walks: the law LexJoins.
-/
import Derived.Test.YthgghkcmhiomeaaJ16
import Derived.Test.YthgghkcmhiomeaaJ12
import Derived.Test.YthgghkcmhiomeaaJ9
namespace Go.Proofs.Ythgghkcmhiomeaa
open Go.RowKit Lx
set_option linter.unusedSimpArgs false
set_option linter.unusedVariables false
set_option maxRecDepth 100000

theorem lst_append (a b : ByteArray) : lst (a ++ b) = lst a ++ lst b := by
  unfold lst
  rw [ByteArray.toList_eq, ByteArray.toList_eq, ByteArray.toList_eq, ByteArray.data_append, Array.toList_append, List.map_append]
/-- What Lex tells of a text without an error. -/
theorem lex_ok (s : ByteArray) (hs : s.size ≤ 1000) (L : List Tk) (hL : lexS (lst s) = (L, 0, 0)) (W : World) : Calls Try.prog 8 #[.string s] W fun e w' => ∃ v, e = .returned (.tuple #[v, .int .i64 0, .int .i64 0]) ∧ RdT w' v L ∧ Below W.heap.size W w' := by
  have h := lex_any W s (by omega)
  rw [hL] at h
  refine h.mono ?_
  rintro e w' ⟨v, rfl, hO, hb⟩
  exact ⟨v, rfl, hO.rd, hb⟩
theorem lexS_zero {l : List Nat} (h : (lexS l).2.1 = 0) : lexS l = ((lexS l).1, 0, 0) ∧ (lexS l).1 ≠ [] := by
  unfold lexS at h ⊢
  split
  · rename_i h1; rw [if_pos h1] at h; simp at h
  · rename_i h1
    rw [if_neg h1] at h
    have h2 := (lex_shape false l 0).2 h
    refine ⟨?_, lex_ne h⟩
    exact Prod.ext rfl (Prod.ext h h2)

theorem chain_len {l : List Nat} {n : Nat} {L : List Tk} (h : Chain l n L) : L.length + n ≤ l.length + 1 := by
  induction L generalizing n with
  | nil => exact absurd h (by simp [Chain])
  | cons t r ih =>
    obtain ⟨h1, h2, -, -, h5, h6⟩ := h
    rcases h6 with h6 | h6
    · subst h6; simp; omega
    · have h7 := ih h6
      have h8 : 0 < t.t.length := List.length_pos_iff.2 (fun e => by have := h5.1 e; subst this; exact absurd h6 (by simp [Chain]))
      simp
      omega
theorem chain_places {l : List Nat} {n : Nat} {L : List Tk} (h : Chain l n L) : ∀ t ∈ L, t.p ≤ l.length := by
  induction L generalizing n with
  | nil => exact absurd h (by simp [Chain])
  | cons t r ih =>
    obtain ⟨h1, h2, -, -, -, h6⟩ := h
    intro x hx
    rcases List.mem_cons.1 hx with rfl | hx
    · omega
    · rcases h6 with h6 | h6
      · subst h6; simp at hx
      · exact ih h6 x hx

set_option maxHeartbeats 6400000 in
theorem lexJoins_main (w : World) (a b : ByteArray) (rk : Bool) (ha : a.size ≤ 300) (hb : b.size ≤ 300) (L K : List Tk) (hL : lexS (lst a) = (L, 0, 0)) (hK : lexS (lst b) = (K, 0, 0)) (hL0 : L ≠ []) (hK0 : K ≠ []) :
    Calls Try.prog 5 #[.string a, .string b, .bool rk] w fun e w' => e = .returned (.bool true) ∧ Below w.heap.size w w' := by
  have hai : ¬ (300 : Int) < (a.size : Int) := by omega
  have hbi : ¬ (300 : Int) < (b.size : Int) := by omega
  have HA := hid (lex_ok a (by omega) L hL)
  have HB := hid (lex_ok b (by omega) K hK)
  obtain ⟨nl, hnl⟩ : ∃ nl, L.length = nl + 1 := ⟨L.length - 1, by have := List.length_pos_iff.2 hL0; omega⟩
  obtain ⟨nk, hnk⟩ : ∃ nk, K.length = nk + 1 := ⟨K.length - 1, by have := List.length_pos_iff.2 hK0; omega⟩
  have hcl := chain_len (chain_lex (lst a) (by rw [hL]))
  have hck := chain_len (chain_lex (lst b) (by rw [hK]))
  have hpk := chain_places (chain_lex (lst b) (by rw [hK]))
  rw [hL] at hcl
  rw [hK] at hck hpk
  rw [lst_length] at hcl hck hpk
  simp only at hcl hck hpk
  have HPK := hid hpk
  clear hpk
  have HJ : ∀ (mv : ByteArray), Mid (lst mv) → mv.size ≤ 8 → lexS (lst (a ++ mv ++ b)) = (L.dropLast ++ K.map (shT (a.size + mv.size)), 0, 0) := by
    intro mv hm hs
    have h := lex_both (a := lst a) (mid := lst mv) (b := lst b) hm (by simp only [lst_length]; omega) (by rw [hL]) (by rw [hK])
    rw [hL, hK] at h
    rw [lst_append, lst_append, h, lst_length, lst_length]
  have HJ1 := HJ ⟨#[10]⟩ (by unfold lst; rw [ByteArray.toList_mk]; exact mid_line) (by decide)
  have HJ2 := HJ ⟨#[32, 35, 32, 120, 32, 61, 32, 10]⟩ (by unfold lst; rw [ByteArray.toList_mk]; exact mid_remark) (by decide)
  have HC1 := hid (lex_ok (a ++ ⟨#[10]⟩ ++ b) (by simp only [ByteArray.size_append]; show a.size + 1 + b.size ≤ 1000; omega) _ HJ1)
  have HC2 := hid (lex_ok (a ++ ⟨#[32, 35, 32, 120, 32, 61, 32, 10]⟩ ++ b) (by simp only [ByteArray.size_append]; show a.size + 8 + b.size ≤ 1000; omega) _ HJ2)
  clear HJ HJ1 HJ2 hL hK hL0 hK0
  cases rk
  · go_enter Try.func5, Try.ntmps5
    go_wp2_with fail
    refine (HA.out _).mono ?_
    rintro e w1 ⟨u, rfl, hu, hb1⟩
    go_wp2_with fail
    refine (HB.out _).mono ?_
    rintro e w2 ⟨v, rfl, hv, hb2⟩
    go_wp2_with (go_at_call 11; refine (num_any _ _).mono ?_; rintro e w4 ⟨rfl, hw4⟩; subst w4)
    refine (HC1.out _).mono ?_
    rintro e w3 ⟨j, rfl, hj, hb3⟩
    have hB2 := below_call hb1 hb2 hb1.size
    have hB3 := below_call hB2 hb3 hB2.size
    replace hv := hv.below hb3
    replace hu := (hu.below hb2).below hb3
    clear hb1 hb2 hb3 hB2 HA HB HC1 HC2
    rw [show (⟨#[10]⟩ : ByteArray).size = 1 from rfl] at hj
    obtain ⟨au, cu, rfl, u1, u2, u3⟩ := hu
    obtain ⟨av, cv, rfl, v1, v2, v3⟩ := hv
    obtain ⟨aj, cj, rfl, j1, j2, j3⟩ := hj
    unfold maxLen at u2 v2 j2
    have hjl : (L.dropLast ++ K.map (shT (a.size + 1))).length = nl + nk + 1 := by simp; omega
    obtain ⟨gu, rfl, gul, hAu⟩ := u3.resolve_left (by omega)
    obtain ⟨gv, rfl, gvl, hAv⟩ := v3.resolve_left (by omega)
    obtain ⟨gj, rfl, gjl, hAj⟩ := j3.resolve_left (by omega)
    clear u3 v3 j3
    obtain ⟨N1, hN1⟩ : ∃ N1, N1 = L.length := ⟨_, rfl⟩
    obtain ⟨N2, hN2⟩ : ∃ N2, N2 = K.length := ⟨_, rfl⟩
    obtain ⟨N3, hN3⟩ : ∃ N3, N3 = (L.dropLast ++ K.map (shT (a.size + 1))).length := ⟨_, rfl⟩
    have HN1 := hid hN1
    have HN2 := hid hN2
    have HN3 := hid hN3
    have HNL := hid hnl
    have HNK := hid hnk
    have HJL := hid hjl
    have HAu := hid hAu
    have HAv := hid hAv
    have HAj := hid hAj
    have o1 : N1 ≤ 301 := by omega
    have o2 : N2 ≤ 301 := by omega
    have o3 : N3 ≤ 602 := by omega
    have hcmp : ((N3 : Int) == (N1 : Int) + (N2 : Int) - 1) = true := by simp; omega
    have hcmp2 : ((N3 : Int) != (N1 : Int) + (N2 : Int) - 1) = false := by simp; omega
    have hpos : 1 ≤ N1 := by omega
    rw [← hN1] at u1 ⊢
    rw [← hN2] at v1 ⊢
    rw [← hN3] at j1 ⊢
    clear hAu hAv hAj hN1 hN2 hN3 hnl hnk hjl
    go_wp2_with (go_at_call 11; refine (num_any _ _).mono ?_; rintro e w4 ⟨rfl, hw4⟩; subst w4)
    go_loopw [17] (fun iv wr => ∃ i : Nat, i ≤ N3 ∧ iv = .int .i64 (i : Int) ∧ Below w3.heap.size w3 wr) (fun iv wr => N3 - (intOf iv).toNat)
    case atStart => exact ⟨0, Nat.zero_le _, rfl, Below.refl _ _⟩
    case round =>
      obtain ⟨i, hi, rfl, hbw⟩ := hrel
      have hwz := hbw.size
      by_cases hlt : i < N3
      · have hii : (i : Int) < (N3 : Int) := by omega
        have hi0 : (0 : Int) ≤ (i : Int) := by omega
        have lu : gu < wr.heap.size := by omega
        have lv : gv < wr.heap.size := by omega
        have lj : gj < wr.heap.size := by omega
        have eu : gu ≠ wr.heap.size := by omega
        have ev : gv ≠ wr.heap.size := by omega
        have ej : gj ≠ wr.heap.size := by omega
        by_cases hcl : i + 1 < N1
        · have hcl2 : (i : Int) < (N1 : Int) - 1 := by omega
          have hcl3 : i < N1 := by omega
          have hcl4 : (i : Int) < (N1 : Int) := by omega
          have hiL : i < L.length := by have := HN1.out; omega
          have hj3 : (L.dropLast ++ K.map (shT (a.size + 1)))[i]'(by have := HN3.out; omega) = L[i] := by
            rw [List.getElem_append_left (by simp; have := HN1.out; omega), List.getElem_dropLast]
          obtain ⟨p0, p1, p2⟩ := (HAu.out i hiL).below gul hbw
          have hq := (HAj.out i (by have := HN3.out; omega)).below gjl hbw
          rw [hj3] at hq
          obtain ⟨q0, q1, q2⟩ := hq
          clear hj3
          generalize L[i] = t at *
          have hbb := TkBox.new wr (.int .i64 (t.k : Int)) (.string (str t.t)) (.int .i64 (t.p : Int))
          obtain ⟨b0, b1, b2⟩ := hbb.c
          have bl := hbb.lt
          have HBW := hid (hbw.alloc hbw.size (.cells #[.int .i64 (t.k : Int), .string (str t.t), .int .i64 (t.p : Int)] 33))
          go_wp2_with fail
          go_quiet (fail)
          go_wp2_with fail
          exact ⟨⟨i + 1, by omega, by go_num, below_drewN HBW.out nq⟩, by simp [intOf]; omega⟩
        · obtain ⟨c, hc⟩ : ∃ c, i = c + N1 - 1 := ⟨i - (N1 - 1), by omega⟩
          have hcl2 : ¬ (i : Int) < (N1 : Int) - 1 := by omega
          have hidx : (i : Int) - (N1 : Int) + 1 = (c : Int) := by omega
          have hcK : c < K.length := by have := HN1.out; have := HN2.out; have := HN3.out; have := HNL.out; have := HNK.out; have := HJL.out; omega
          have hcn : c < N2 := by have := HN2.out; omega
          have hcni : (c : Int) < (N2 : Int) := by omega
          have hc0 : (0 : Int) ≤ (c : Int) := by omega
          have hj3 : (L.dropLast ++ K.map (shT (a.size + 1)))[i]'(by have := HN3.out; omega) = shT (a.size + 1) K[c] := by
            rw [List.getElem_append_right (by simp; have := HN1.out; omega), List.getElem_map]
            congr 2
            simp
            have := HN1.out
            omega
          obtain ⟨p0, p1, p2⟩ := (HAv.out c hcK).below gvl hbw
          have hq := (HAj.out i (by have := HN3.out; omega)).below gjl hbw
          rw [hj3] at hq
          have tpn : K[c].p ≤ 300 := by have := HPK.out _ (List.getElem_mem hcK); omega
          generalize K[c] = t at *
          obtain ⟨q0, q1, q2⟩ := hq
          simp only [shT] at q0 q1 q2
          rw [show ((t.p + (a.size + 1) : Nat) : Int) = (t.p : Int) + (a.size : Int) + 1 by omega] at q2
          have hbb := TkBox.new wr (.int .i64 (t.k : Int)) (.string (str t.t)) (.int .i64 ((t.p : Int) + (a.size : Int) + 1))
          obtain ⟨b0, b1, b2⟩ := hbb.c
          have bl := hbb.lt
          have hbz := TkBox.new wr (.int .i64 (t.k : Int)) (.string (str t.t)) (.int .i64 (t.p : Int))
          obtain ⟨z0, z1, z2⟩ := hbz.c
          have zl := hbz.lt
          have tp : (t.p : Int) ≤ 300 := by omega
          have HBW := hid (hbw.alloc hbw.size (.cells #[.int .i64 (t.k : Int), .string (str t.t), .int .i64 ((t.p : Int) + (a.size : Int) + 1)] 33))
          clear hj3 hc
          go_wp2_with fail
          go_quiet (fail)
          go_wp2_with fail
          exact ⟨⟨i + 1, by omega, by go_num, below_drewN HBW.out nq⟩, by simp [intOf]; omega⟩
      · have hie : i = N3 := by omega
        subst hie
        go_wp2_with (go_at_call 7; refine (awake_any _).mono ?_; rintro e w5 ⟨rfl, hb5⟩)
        go_ret
        exact ⟨rfl, below_call (hB3.trans (hbw.mono hB3.size)) hb5 (by have := hB3.size; omega)⟩
  · go_enter Try.func5, Try.ntmps5
    go_wp2_with fail
    refine (HA.out _).mono ?_
    rintro e w1 ⟨u, rfl, hu, hb1⟩
    go_wp2_with fail
    refine (HB.out _).mono ?_
    rintro e w2 ⟨v, rfl, hv, hb2⟩
    go_wp2_with (go_at_call 11; refine (num_any _ _).mono ?_; rintro e w4 ⟨rfl, hw4⟩; subst w4)
    refine (HC2.out _).mono ?_
    rintro e w3 ⟨j, rfl, hj, hb3⟩
    have hB2 := below_call hb1 hb2 hb1.size
    have hB3 := below_call hB2 hb3 hB2.size
    replace hv := hv.below hb3
    replace hu := (hu.below hb2).below hb3
    clear hb1 hb2 hb3 hB2 HA HB HC1 HC2
    rw [show (⟨#[32, 35, 32, 120, 32, 61, 32, 10]⟩ : ByteArray).size = 8 from rfl] at hj
    obtain ⟨au, cu, rfl, u1, u2, u3⟩ := hu
    obtain ⟨av, cv, rfl, v1, v2, v3⟩ := hv
    obtain ⟨aj, cj, rfl, j1, j2, j3⟩ := hj
    unfold maxLen at u2 v2 j2
    have hjl : (L.dropLast ++ K.map (shT (a.size + 8))).length = nl + nk + 1 := by simp; omega
    obtain ⟨gu, rfl, gul, hAu⟩ := u3.resolve_left (by omega)
    obtain ⟨gv, rfl, gvl, hAv⟩ := v3.resolve_left (by omega)
    obtain ⟨gj, rfl, gjl, hAj⟩ := j3.resolve_left (by omega)
    clear u3 v3 j3
    obtain ⟨N1, hN1⟩ : ∃ N1, N1 = L.length := ⟨_, rfl⟩
    obtain ⟨N2, hN2⟩ : ∃ N2, N2 = K.length := ⟨_, rfl⟩
    obtain ⟨N3, hN3⟩ : ∃ N3, N3 = (L.dropLast ++ K.map (shT (a.size + 8))).length := ⟨_, rfl⟩
    have HN1 := hid hN1
    have HN2 := hid hN2
    have HN3 := hid hN3
    have HNL := hid hnl
    have HNK := hid hnk
    have HJL := hid hjl
    have HAu := hid hAu
    have HAv := hid hAv
    have HAj := hid hAj
    have o1 : N1 ≤ 301 := by omega
    have o2 : N2 ≤ 301 := by omega
    have o3 : N3 ≤ 602 := by omega
    have hcmp : ((N3 : Int) == (N1 : Int) + (N2 : Int) - 1) = true := by simp; omega
    have hcmp2 : ((N3 : Int) != (N1 : Int) + (N2 : Int) - 1) = false := by simp; omega
    have hpos : 1 ≤ N1 := by omega
    rw [← hN1] at u1 ⊢
    rw [← hN2] at v1 ⊢
    rw [← hN3] at j1 ⊢
    clear hAu hAv hAj hN1 hN2 hN3 hnl hnk hjl
    go_wp2_with (go_at_call 11; refine (num_any _ _).mono ?_; rintro e w4 ⟨rfl, hw4⟩; subst w4)
    go_loopw [17] (fun iv wr => ∃ i : Nat, i ≤ N3 ∧ iv = .int .i64 (i : Int) ∧ Below w3.heap.size w3 wr) (fun iv wr => N3 - (intOf iv).toNat)
    case atStart => exact ⟨0, Nat.zero_le _, rfl, Below.refl _ _⟩
    case round =>
      obtain ⟨i, hi, rfl, hbw⟩ := hrel
      have hwz := hbw.size
      by_cases hlt : i < N3
      · have hii : (i : Int) < (N3 : Int) := by omega
        have hi0 : (0 : Int) ≤ (i : Int) := by omega
        have lu : gu < wr.heap.size := by omega
        have lv : gv < wr.heap.size := by omega
        have lj : gj < wr.heap.size := by omega
        have eu : gu ≠ wr.heap.size := by omega
        have ev : gv ≠ wr.heap.size := by omega
        have ej : gj ≠ wr.heap.size := by omega
        by_cases hcl : i + 1 < N1
        · have hcl2 : (i : Int) < (N1 : Int) - 1 := by omega
          have hcl3 : i < N1 := by omega
          have hcl4 : (i : Int) < (N1 : Int) := by omega
          have hiL : i < L.length := by have := HN1.out; omega
          have hj3 : (L.dropLast ++ K.map (shT (a.size + 8)))[i]'(by have := HN3.out; omega) = L[i] := by
            rw [List.getElem_append_left (by simp; have := HN1.out; omega), List.getElem_dropLast]
          obtain ⟨p0, p1, p2⟩ := (HAu.out i hiL).below gul hbw
          have hq := (HAj.out i (by have := HN3.out; omega)).below gjl hbw
          rw [hj3] at hq
          obtain ⟨q0, q1, q2⟩ := hq
          clear hj3
          generalize L[i] = t at *
          have hbb := TkBox.new wr (.int .i64 (t.k : Int)) (.string (str t.t)) (.int .i64 (t.p : Int))
          obtain ⟨b0, b1, b2⟩ := hbb.c
          have bl := hbb.lt
          have HBW := hid (hbw.alloc hbw.size (.cells #[.int .i64 (t.k : Int), .string (str t.t), .int .i64 (t.p : Int)] 33))
          go_wp2_with fail
          go_quiet (fail)
          go_wp2_with fail
          exact ⟨⟨i + 1, by omega, by go_num, below_drewN HBW.out nq⟩, by simp [intOf]; omega⟩
        · obtain ⟨c, hc⟩ : ∃ c, i = c + N1 - 1 := ⟨i - (N1 - 1), by omega⟩
          have hcl2 : ¬ (i : Int) < (N1 : Int) - 1 := by omega
          have hidx : (i : Int) - (N1 : Int) + 1 = (c : Int) := by omega
          have hcK : c < K.length := by have := HN1.out; have := HN2.out; have := HN3.out; have := HNL.out; have := HNK.out; have := HJL.out; omega
          have hcn : c < N2 := by have := HN2.out; omega
          have hcni : (c : Int) < (N2 : Int) := by omega
          have hc0 : (0 : Int) ≤ (c : Int) := by omega
          have hj3 : (L.dropLast ++ K.map (shT (a.size + 8)))[i]'(by have := HN3.out; omega) = shT (a.size + 8) K[c] := by
            rw [List.getElem_append_right (by simp; have := HN1.out; omega), List.getElem_map]
            congr 2
            simp
            have := HN1.out
            omega
          obtain ⟨p0, p1, p2⟩ := (HAv.out c hcK).below gvl hbw
          have hq := (HAj.out i (by have := HN3.out; omega)).below gjl hbw
          rw [hj3] at hq
          have tpn : K[c].p ≤ 300 := by have := HPK.out _ (List.getElem_mem hcK); omega
          generalize K[c] = t at *
          obtain ⟨q0, q1, q2⟩ := hq
          simp only [shT] at q0 q1 q2
          rw [show ((t.p + (a.size + 8) : Nat) : Int) = (t.p : Int) + (a.size : Int) + 8 by omega] at q2
          have hbb := TkBox.new wr (.int .i64 (t.k : Int)) (.string (str t.t)) (.int .i64 ((t.p : Int) + (a.size : Int) + 8))
          obtain ⟨b0, b1, b2⟩ := hbb.c
          have bl := hbb.lt
          have hbz := TkBox.new wr (.int .i64 (t.k : Int)) (.string (str t.t)) (.int .i64 (t.p : Int))
          obtain ⟨z0, z1, z2⟩ := hbz.c
          have zl := hbz.lt
          have tp : (t.p : Int) ≤ 300 := by omega
          have HBW := hid (hbw.alloc hbw.size (.cells #[.int .i64 (t.k : Int), .string (str t.t), .int .i64 ((t.p : Int) + (a.size : Int) + 8)] 33))
          clear hj3 hc
          go_wp2_with fail
          go_quiet (fail)
          go_wp2_with fail
          exact ⟨⟨i + 1, by omega, by go_num, below_drewN HBW.out nq⟩, by simp [intOf]; omega⟩
      · have hie : i = N3 := by omega
        subst hie
        go_wp2_with (go_at_call 7; refine (awake_any _).mono ?_; rintro e w5 ⟨rfl, hb5⟩)
        go_ret
        exact ⟨rfl, below_call (hB3.trans (hbw.mono hB3.size)) hb5 (by have := hB3.size; omega)⟩

set_option maxHeartbeats 6400000 in
theorem lexJoins_any (w : World) (a b : ByteArray) (rk : Bool) (ha : a.size ≤ maxLen) (hb : b.size ≤ maxLen) :
    Calls Try.prog 5 #[.string a, .string b, .bool rk] w fun e w' => e = .returned (.bool true) ∧ Below w.heap.size w w' := by
  unfold maxLen at ha hb
  by_cases h1 : 300 < a.size
  · have h1i : (300 : Int) < (a.size : Int) := by omega
    go_enter Try.func5, Try.ntmps5
    go_wp2_with (go_at_call 7; refine (awake_any _).mono ?_; rintro e w5 ⟨rfl, hb5⟩)
    go_ret
    exact ⟨rfl, hb5⟩
  · have h1i : ¬ (300 : Int) < (a.size : Int) := by omega
    by_cases h2 : 300 < b.size
    · have h2i : (300 : Int) < (b.size : Int) := by omega
      go_enter Try.func5, Try.ntmps5
      go_wp2_with (go_at_call 7; refine (awake_any _).mono ?_; rintro e w5 ⟨rfl, hb5⟩)
      go_ret
      exact ⟨rfl, hb5⟩
    · have h2i : ¬ (300 : Int) < (b.size : Int) := by omega
      by_cases hx : (lexS (lst a)).2.1 = 0
      · by_cases hy : (lexS (lst b)).2.1 = 0
        · obtain ⟨q1, q2⟩ := lexS_zero hx
          obtain ⟨q3, q4⟩ := lexS_zero hy
          exact lexJoins_main w a b rk (by omega) (by omega) _ _ q1 q3 q2 q4
        · have hx0 : (((lexS (lst a)).2.1 : Int) == 0) = true := by simp; omega
          have hy0 : (((lexS (lst b)).2.1 : Int) == 0) = false := by simp; omega
          clear hx hy
          go_enter Try.func5, Try.ntmps5
          go_wp2_with fail
          refine (lex_any _ a (by omega)).mono ?_
          rintro e w1 ⟨u, rfl, -, hb1⟩
          go_wp2_with fail
          refine (lex_any _ b (by omega)).mono ?_
          rintro e w2 ⟨v, rfl, -, hb2⟩
          have hB2 := below_call hb1 hb2 hb1.size
          clear hb1 hb2
          go_wp2_with (first | (go_at_call 11; refine (num_any _ _).mono ?_; rintro e w4 ⟨rfl, hw4⟩; subst w4) | (go_at_call 7; refine (awake_any _).mono ?_; rintro e w5 ⟨rfl, hb5⟩))
          all_goals
            go_ret
            exact ⟨rfl, below_call hB2 hb5 hB2.size⟩
      · have hx0 : (((lexS (lst a)).2.1 : Int) == 0) = false := by simp; omega
        clear hx
        go_enter Try.func5, Try.ntmps5
        go_wp2_with fail
        refine (lex_any _ a (by omega)).mono ?_
        rintro e w1 ⟨u, rfl, -, hb1⟩
        go_wp2_with fail
        refine (lex_any _ b (by omega)).mono ?_
        rintro e w2 ⟨v, rfl, -, hb2⟩
        have hB2 := below_call hb1 hb2 hb1.size
        clear hb1 hb2
        go_wp2_with (first | (go_at_call 11; refine (num_any _ _).mono ?_; rintro e w4 ⟨rfl, hw4⟩; subst w4) | (go_at_call 7; refine (awake_any _).mono ?_; rintro e w5 ⟨rfl, hb5⟩))
        all_goals
          go_ret
          exact ⟨rfl, below_call hB2 hb5 hB2.size⟩

end Go.Proofs.Ythgghkcmhiomeaa
