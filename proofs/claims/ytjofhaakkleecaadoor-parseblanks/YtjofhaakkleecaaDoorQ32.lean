/-
  Walks: the law ParsePlaces.
-/
import Derived.Test.YtjofhaakkleecaaDoorQB
import Derived.Test.YtjofhaakkleecaaDoorQM
namespace Go.Proofs.YtjofhaakkleecaaDoor
open Go.RowKit Lx
set_option linter.unusedSimpArgs false
set_option linter.unusedVariables false
set_option maxRecDepth 100000

theorem strl_size (l : List Nat) : (str l).size = l.length := by simp [str, ByteArray.size]
theorem lst_app (a b : ByteArray) : lst (a ++ b) = lst a ++ lst b := by
  unfold lst
  rw [ByteArray.toList_eq, ByteArray.toList_eq, ByteArray.toList_eq, ByteArray.data_append, Array.toList_append, List.map_append]
theorem lst_upto (s : ByteArray) (b : Nat) : lst (s.extract 0 b) = (lst s).take b := by rw [lst_extract]; rfl
theorem at3_below {w w' : World} {g o : Nat} {t : Tk} (h : At3 w g o t) (hg : g < w.heap.size) (hb : Below w.heap.size w w') : At3 w' g o t :=
  ⟨(hb.cell (p := ⟨g, o, none⟩) hg).trans h.1, (hb.cell (p := ⟨g, o + 1, none⟩) hg).trans h.2.1, (hb.cell (p := ⟨g, o + 2, none⟩) hg).trans h.2.2⟩
/-- The last place where the error's stands, as far as one has looked. -/
def kV (K i : Nat) : Int := if K < i then (K : Int) else -1
/-- What a program is: a row of procedures. -/
theorem pg_shape {w : World} {ok : Nat → Prop} {L : List Pr} {v : Value} (h : PgV w ok L v) : ∃ ag mg cg, v = .agg #[.slice ag mg cg] := by
  obtain ⟨ag, mg, cg, rfl, -⟩ := h
  exact ⟨ag, mg, cg, rfl⟩

set_option maxHeartbeats 6400000 in
theorem parsePlaces_any (w : World) (s m : ByteArray) (hs : s.size ≤ maxLen) (hm : m.size ≤ maxLen) :
    Calls Tryd.prog 4 #[.string s, .string m] w fun e w' => e = .returned (.bool true) ∧ Below w.heap.size w w' := by
  unfold maxLen at hs hm
  by_cases h1 : 600 < s.size
  · have h1i : (600 : Int) < (s.size : Int) := by omega
    go_enter Tryd.func4, Tryd.ntmps4
    go_wp2_with (go_at_call 6; refine (awake8_any _).mono ?_; rintro e w5 ⟨rfl, hb5⟩)
    go_ret
    exact ⟨rfl, hb5⟩
  · have h1i : ¬ (600 : Int) < (s.size : Int) := by omega
    by_cases h2 : 600 < m.size
    · have h2i : (600 : Int) < (m.size : Int) := by omega
      go_enter Tryd.func4, Tryd.ntmps4
      go_wp2_with (go_at_call 6; refine (awake8_any _).mono ?_; rintro e w5 ⟨rfl, hb5⟩)
      go_ret
      exact ⟨rfl, hb5⟩
    · have h2i : ¬ (600 : Int) < (m.size : Int) := by omega
      have hs6 : s.size ≤ 600 := by omega
      have hm6 : m.size ≤ 600 := by omega
      obtain ⟨⟨P, x, pl⟩, hpr⟩ : ∃ a, progS (lst s) = a := ⟨_, rfl⟩
      have HP := pProg_any w s (by omega)
      rw [hpr] at HP
      have HL0 := fun W => lex_any W s (by omega)
      clear h1 h2
      by_cases hx : (lexS (lst s)).2.1 = 0
      · have hx0 : (((lexS (lst s)).2.1 : Int) == 0) = true := by simp; omega
        by_cases h45 : x = 4 ∨ x = 5
        · have hP0 : P = [] ∧ x ≠ 0 := by
            refine ⟨?_, by omega⟩
            unfold progS at hpr
            rw [if_neg (by simpa using hx)] at hpr
            split at hpr
            · simp only [Prod.mk.injEq] at hpr; omega
            · simp only [Prod.mk.injEq] at hpr; exact hpr.1.symm
          obtain ⟨rfl, hxn⟩ := hP0
          obtain ⟨K, hK, hpk, hpp⟩ := places_of hx (lst_small s) hpr hxn
          have hch := chain_lex (lst s) hx
          obtain ⟨hN1, hN2⟩ := chain_texts hch
          rw [lst_length] at hN1 hN2
          have hpm : K + 1 < (lexS (lst s)).1.length → (lexS (lst m)).2.1 = 0 → progS ((lst s).take ((tks (lexS (lst s)).1 K).p + (tks (lexS (lst s)).1 K).t.length) ++ [32] ++ lst m) = ([], x, (tks (lexS (lst s)).1 K).p) := fun q1 q2 =>
            places_math hx q2 (by rw [lst_length]; omega) (by rw [lst_length]; omega) hpk q1
          rw [tks_get hK] at hpm hpp
          have hone : ∀ i (hi : i < (lexS (lst s)).1.length), ((lexS (lst s)).1[i].p = pl ↔ i = K) := by
            intro i hi
            rw [← hpp]
            constructor
            · intro h
              rcases Nat.lt_trichotomy i K with c | c | c
              · have := (chain_rise hch i hi _ (List.getElem?_eq_getElem hi)).2 K _ c (List.getElem?_eq_getElem hK); omega
              · exact c
              · have := (chain_rise hch K hK _ (List.getElem?_eq_getElem hK)).2 i _ c (List.getElem?_eq_getElem hi); omega
            · rintro rfl; rfl
          have hend : K + 1 < (lexS (lst s)).1.length → pl + (lexS (lst s)).1[K].t.length ≤ s.size := by
            intro hk
            have s1 : lexS (lst s) = lexN false (lst s) 0 := by unfold lexS; rw [if_neg (by rw [lst_length]; omega)]
            obtain ⟨e, e1, e2, -⟩ := lex_cut_join [] ((lst s).length + 1) (lst s) 0 (by omega) (by rw [← s1]; exact hx) K _ (by rw [← s1]; exact List.getElem?_eq_getElem hK) (by rw [← s1]; exact hk)
            rw [lst_length] at e2
            rw [← hpp]
            omega
          have HLM := hid (fun W => lex_any W m (by omega))
          have hx4 : ((x : Int) = 4 ∧ ((x : Int) != 4) = false ∧ ((x : Int) != 5) = true) ∨ (¬ (x : Int) = 4 ∧ ((x : Int) != 4) = true ∧ ((x : Int) != 5) = false) := by
            rcases h45 with rfl | rfl
            · exact .inl ⟨rfl, rfl, rfl⟩
            · exact .inr ⟨by omega, rfl, rfl⟩
          rw [lexS_pair hx] at HL0
          have HL := hid HL0
          clear hpr hch h45 hxn hpk HL0
          rw [hpp] at hpm
          have HPM := hid hpm
          clear hpm
          generalize hLL : (lexS (lst s)).1 = L at *
          have HEND := hid hend
          have HONE := hid hone
          obtain ⟨N, hN⟩ : ∃ N, N = L.length := ⟨_, rfl⟩
          have HN := hid hN
          clear hLL hx hx0 hone hend hpp
          go_enter Tryd.func4, Tryd.ntmps4
          go_wp2_with fail
          refine HP.mono ?_
          rintro e w1 ⟨v, rfl, hv, hb1⟩
          obtain ⟨ag, mg, cg, rfl⟩ := pg_shape hv
          have hW1 : Below w.heap.size w (w1.alloc (.cells #[.slice ag mg cg] 25)) := below_call (Below.refl _ _) (hb1.alloc hb1.size _) (Nat.le_refl _)
          clear hv HP hb1
          go_wp2_with fail
          generalize w1.alloc (.cells #[.slice ag mg cg] 25) = W1 at *
          refine (HL.out W1).mono ?_
          rintro e w2 ⟨u, rfl, hO, hb2⟩
          obtain ⟨ao, cap, rfl, a1, a2, a3⟩ := hO.shape
          simp only at a1 a2 a3
          have hW2 := below_call hW1 hb2 hW1.size
          unfold maxLen at a2
          obtain ⟨g, rfl, -, hg, hA⟩ := a3.resolve_left (by omega)
          have HA := hid hA
          clear hO HL a3 hW1 hb2 hA
          simp only
          rw [← hN] at a1 hK hN2 ⊢
          have HK := hid (show K < L.length by omega)
          clear hN
          have hN6 : N ≤ 601 := by omega
          have hK0 : ¬ (K : Int) < 0 := by omega
          rcases hx4 with ⟨hx4, hx5, hx6⟩ | ⟨hx4, hx5, hx6⟩
          all_goals
            go_wp2_with (go_at_call 9; refine (pnum_any _ _).mono ?_; rintro e w4 ⟨rfl, hw4⟩; subst w4)
            go_loop [11, 12] (fun kv iv => ∃ i : Nat, i ≤ N ∧ iv = .int .i64 (i : Int) ∧ kv = .int .i64 (kV K i)) (fun kv iv => N - (intOf iv).toNat)
            case atStart => exact ⟨0, by omega, rfl, rfl⟩
            case round =>
              obtain ⟨i, hin, rfl, rfl⟩ := hrel
              by_cases hlt : i < N
              · have hii : (i : Int) < (N : Int) := by omega
                have hi0 : (0 : Int) ≤ (i : Int) := by omega
                have hiL : i < L.length := by have := HN.out; omega
                obtain ⟨p0, p1, p2⟩ := HA.out i hiL
                have HO1 := hid (HONE.out i hiL)
                generalize L[i] = t at *
                by_cases hiK : i = K
                · subst hiK
                  have c5 : t.p = pl := HO1.out.2 rfl
                  have c6 : (t.p : Int) = (pl : Int) := by omega
                  have HV : Hid (kV i (i + 1) = (i : Int)) := hid (by unfold kV; rw [if_pos (by omega)])
                  go_wp2
                  refine ⟨⟨i + 1, by omega, by go_num, by rw [HV.out]⟩, ?_⟩
                  simp only [intOf]
                  omega
                · have c5 : ¬ t.p = pl := fun h => hiK (HO1.out.1 h)
                  have c6 : ¬ (t.p : Int) = (pl : Int) := by omega
                  have HV : Hid (kV K (i + 1) = kV K i) := hid (by unfold kV; by_cases h : K < i <;> simp [h] <;> omega)
                  go_wp2
                  refine ⟨⟨i + 1, by omega, by go_num, by rw [HV.out]⟩, ?_⟩
                  simp only [intOf]
                  omega
              · obtain rfl : i = N := by omega
                have hV : kV K i = (K : Int) := by unfold kV; rw [if_pos (by omega)]
                rw [hV]
                have hii : ¬ (i : Int) < (i : Int) := by omega
                by_cases hke : K + 1 = i
                · have c7 : ((K : Int) == (i : Int) - 1) = true := by simp; omega
                  go_wp2_with (go_at_call 6; refine (awake8_any _).mono ?_; rintro e w5 ⟨rfl, hb5⟩)
                  go_ret
                  exact ⟨rfl, below_call hW2 hb5 hW2.size⟩
                · have c7 : ((K : Int) == (i : Int) - 1) = false := by rw [beq_eq_false_iff_ne]; omega
                  have hKi : (K : Int) < (i : Int) := by omega
                  have hK1 : K + 1 < L.length := by have := HN.out; omega
                  have HAK := hid (HA.out K HK.out)
                  have he := HEND.out hK1
                  have HPM2 := hid (HPM.out hK1)
                  generalize L[K]'HK.out = t at *
                  go_wp2_with fail
                  refine (HLM.out w2).mono ?_
                  rintro e w3 ⟨u, rfl, -, hb3⟩
                  have hW3 := below_call hW2 hb3 hW2.size
                  obtain ⟨p0, p1, p2⟩ := at3_below HAK.out hg hb3
                  by_cases hy : (lexS (lst m)).2.1 = 0
                  · have hy0 : (((lexS (lst m)).2.1 : Int) != 0) = false := by simpa using hy
                    have HPM3 := HPM2.out hy
                    obtain ⟨n, hn⟩ : ∃ n, t.t.length = n := ⟨_, rfl⟩
                    have hz : (str t.t).size = n := by rw [strl_size, hn]
                    rw [hn] at he HPM3
                    have q1 : (pl : Int) + (n : Int) ≤ (s.size : Int) := by omega
                    have q0 : (0 : Int) ≤ (pl : Int) + (n : Int) := by omega
                    have HPQ := hid (fun W => pProg_any W (s.extract 0 (pl + n) ++ ⟨#[32]⟩ ++ m) (by
                      rw [ByteArray.size_append, ByteArray.size_append]
                      have h1 : (s.extract 0 (pl + n)).size ≤ s.size := by rw [ByteArray.size_extract]; omega
                      have h2 : (⟨#[32]⟩ : ByteArray).size = 1 := rfl
                      omega))
                    rw [lst_app, lst_app, lst_upto, show lst ⟨#[32]⟩ = [32] by unfold lst; rw [ByteArray.toList_mk]; rfl, HPM3] at HPQ
                    have hz1 : (s.extract 0 (pl + n)).size = pl + n := by rw [ByteArray.size_extract]; omega
                    clear HPM HPM2 HPM3 HEND HONE HA
                    go_wp2_with (go_at_call 9; refine (pnum_any _ _).mono ?_; rintro e w4 ⟨rfl, hw4⟩; subst w4)
                    refine (HPQ.out _).mono ?_
                    rintro e w4 ⟨v, rfl, hv, hb4⟩
                    obtain ⟨ag2, mg2, cg2, rfl⟩ := pg_shape hv
                    have hW4 : Below w.heap.size w (w4.alloc (.cells #[.slice ag2 mg2 cg2] 25)) := (below_call hW3 hb4 hW3.size).alloc ((below_call hW3 hb4 hW3.size).size) _
                    clear hv hb4 HPQ
                    go_wp2_with (first | (go_at_call 9; refine (pnum_any _ _).mono ?_; rintro e w4 ⟨rfl, hw4⟩; subst w4) | (go_at_call 6; refine (awake8_any _).mono ?_; rintro e w5 ⟨rfl, hb5⟩))
                    go_ret
                    exact ⟨rfl, below_call hW4 hb5 hW4.size⟩
                  · have hy0 : (((lexS (lst m)).2.1 : Int) != 0) = true := by simpa using hy
                    go_wp2_with (first | (go_at_call 9; refine (pnum_any _ _).mono ?_; rintro e w4 ⟨rfl, hw4⟩; subst w4) | (go_at_call 6; refine (awake8_any _).mono ?_; rintro e w5 ⟨rfl, hb5⟩))
                    go_ret
                    exact ⟨rfl, below_call hW3 hb5 hW3.size⟩
        · have hx0 : (((lexS (lst s)).2.1 : Int) == 0) = true := by simp; omega
          have hx4 : ¬ (x : Int) = 4 := by omega
          have hx5 : ¬ (x : Int) = 5 := by omega
          have hx6 : ((x : Int) != 4) = true := by simpa using hx4
          have hx7 : ((x : Int) != 5) = true := by simpa using hx5
          rw [lexS_pair hx] at HL0
          have HL := hid HL0
          clear hpr HL0 hx0 hx h45
          go_enter Tryd.func4, Tryd.ntmps4
          go_wp2_with fail
          refine HP.mono ?_
          rintro e w1 ⟨v, rfl, hv, hb1⟩
          obtain ⟨ag, mg, cg, rfl⟩ := pg_shape hv
          have hW1 : Below w.heap.size w (w1.alloc (.cells #[.slice ag mg cg] 25)) := below_call (Below.refl _ _) (hb1.alloc hb1.size _) (Nat.le_refl _)
          clear hv HP hb1
          go_wp2_with fail
          generalize w1.alloc (.cells #[.slice ag mg cg] 25) = W1 at *
          refine (HL.out W1).mono ?_
          rintro e w2 ⟨u, rfl, hO, hb2⟩
          have hW2 := below_call hW1 hb2 hW1.size
          clear hO HL hW1 hb2
          go_wp2_with (first | (go_at_call 9; refine (pnum_any _ _).mono ?_; rintro e w4 ⟨rfl, hw4⟩; subst w4) | (go_at_call 6; refine (awake8_any _).mono ?_; rintro e w5 ⟨rfl, hb5⟩))
          go_ret
          exact ⟨rfl, below_call hW2 hb5 hW2.size⟩
      · have hx0 : (((lexS (lst s)).2.1 : Int) != 0) = true := by simpa using hx
        have HL := hid HL0
        clear hpr HL0
        go_enter Tryd.func4, Tryd.ntmps4
        go_wp2_with fail
        refine HP.mono ?_
        rintro e w1 ⟨v, rfl, hv, hb1⟩
        obtain ⟨ag, mg, cg, rfl⟩ := pg_shape hv
        have hW1 : Below w.heap.size w (w1.alloc (.cells #[.slice ag mg cg] 25)) := below_call (Below.refl _ _) (hb1.alloc hb1.size _) (Nat.le_refl _)
        clear hv HP hb1
        go_wp2_with fail
        generalize w1.alloc (.cells #[.slice ag mg cg] 25) = W1 at *
        refine (HL.out W1).mono ?_
        rintro e w2 ⟨u, rfl, hO, hb2⟩
        have hW2 := below_call hW1 hb2 hW1.size
        clear hO HL hW1 hb2
        go_wp2_with (first | (go_at_call 9; refine (pnum_any _ _).mono ?_; rintro e w4 ⟨rfl, hw4⟩; subst w4) | (go_at_call 6; refine (awake8_any _).mono ?_; rintro e w5 ⟨rfl, hb5⟩))
        go_ret
        exact ⟨rfl, below_call hW2 hb5 hW2.size⟩
end Go.Proofs.YtjofhaakkleecaaDoor
