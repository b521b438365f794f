/-
  Walks: the law ParseLeft.
-/
import Derived.Test.YtjofhaakkleecaaDoorQ39
namespace Go.Proofs.YtjofhaakkleecaaDoor
open Go.RowKit Lx
set_option linter.unusedSimpArgs false
set_option linter.unusedVariables false
set_option maxRecDepth 100000

theorem left_small {n : Nat} {ps : List (Nat × Nat)} (hn : n < 256) (h : ∀ p ∈ ps, p.1 < 2 ∧ p.2 < 256) : ∀ x ∈ leftT n ps, x < 256 := by
  have key : ∀ {ps : List (Nat × Nat)}, (∀ p ∈ ps, p.1 < 2 ∧ p.2 < 256) → ∀ x ∈ flatW (tailW ps), x < 256 := by
    intro ps
    induction ps with
    | nil => intro _ x hx; simp [tailW, flatW] at hx
    | cons p r ih =>
      intro h x hx
      simp only [tailW, flatW, List.mem_cons, List.mem_append] at hx
      rcases hx with rfl | hx | rfl | hx | hx
      · omega
      · unfold opW at hx; split at hx <;> simp at hx <;> omega
      · omega
      · exact dg_small (h p (List.mem_cons_self ..)).2 x hx
      · exact ih (fun p hp => h p (List.mem_cons_of_mem _ hp)) x hx
  intro x hx
  unfold leftT sumT at hx
  rw [List.mem_append, List.mem_append, List.mem_append] at hx
  rcases hx with (hx | hx | hx) | hx
  · simp at hx; omega
  · exact dg_small hn x hx
  · exact key h x hx
  · simp at hx; omega
/-- What the row of nodes is in the program that is told. -/
theorem pg_nodes {w : World} {ok : Nat → Prop} {n r : List Nat} {ps vs : List (List Nat)} {k : Nat} {nm pr : List Nat} {e : List Nd} {a : List (List Nd)} {b l : List St} {v : Value} (h : PgV w ok [⟨n, ps, r, vs, [.mk k nm pr e a b l]⟩] v) :
    ∃ gP cg gB cb ae ce, v = .agg #[.slice (some ⟨gP, 0, none⟩) 1 cg] ∧ 1 ≤ cg ∧ gP < w.heap.size ∧ w.cell? ⟨gP, 4, none⟩ = some (.slice (some ⟨gB, 0, none⟩) 1 cb) ∧ 1 ≤ cb ∧ gB < w.heap.size ∧ w.cell? ⟨gB, 3, none⟩ = some (.slice ae e.length ce) ∧ NdF w ok ae e.length ce e := by
  obtain ⟨ao, m, cap, rfl, e1, b1, b2, g1⟩ := pgv_get h
  have hm : m = 1 := e1
  subst hm
  obtain ⟨gP, c, rfl, hgP, hc5, hcc, hpr⟩ := g1 0 (by omega) _ rfl
  unfold PrV at hpr
  obtain ⟨ap, mp, cp, av, mv, cv, ab, mb, cb, he, -, -, hbody⟩ := hpr
  obtain ⟨e2, d1, d2, g2⟩ := ssf_get hbody
  have hmb : mb = 1 := e2
  subst hmb
  obtain ⟨gB, d, rfl, hgB, hd7, hdd, hst⟩ := g2 0 (by omega) _ rfl
  unfold StV at hst
  obtain ⟨ae, me, ce, aa, ma, ca, ab', mb', cb', al, ml, cl, vb, vl, hev, hnd, -⟩ := hst
  have hme := hnd.1
  rw [List.length_map] at hme
  subst hme
  have hcl : c = [.string (str n), .slice ap mp cp, .string (str r), .slice av mv cv, .slice (some ⟨gB, 0, none⟩) 1 cb] := by
    simp only [Value.agg.injEq] at he
    have := congrArg Array.toList he
    simpa using this
  have hdl : d = [.int .i64 (k : Int), .string (str nm), .string (str pr), .slice ae e.length ce, .slice aa ma ca, .slice ab' mb' cb', .slice al ml cl] := by
    simp only [Value.agg.injEq] at hev
    have := congrArg Array.toList hev
    simpa using this
  subst hcl hdl
  have h4 := hcc 4 _ rfl
  have h3 := hdd 3 _ rfl
  simp only [Nat.zero_mul, Nat.zero_add] at h4 h3
  exact ⟨gP, cap, gB, cb, ae, ce, rfl, b1, hgP, h4, d1, hgB, h3, hnd⟩

set_option maxHeartbeats 3200000 in
theorem parseLeft_any (w : World) (ao : Option Addr) (cap : Nat) (l : List Nat) (h : BtAt w ao cap l) :
    Calls Tryd.prog 5 #[.slice ao l.length cap] w fun e w' => e = .returned (.bool true) ∧ Below w.heap.size w w' := by
  obtain ⟨N, hN⟩ : ∃ N, N = l.length := ⟨_, rfl⟩
  have hcap : N ≤ 9223372036854775807 := by have h1 := h.2.1; have h2 := h.2.2.1; unfold maxLen at h2; omega
  by_cases h0 : N = 0
  · rw [← hN, h0]
    clear h hN
    go_enter Tryd.func5, Tryd.ntmps5
    go_wp2_with (go_at_call 6; refine (awake8_any _).mono ?_; rintro e w5 ⟨rfl, hb5⟩)
    go_ret
    exact ⟨rfl, hb5⟩
  · have h0i : ((N : Int) == 0) = false := by rw [beq_eq_false_iff_ne]; omega
    by_cases h1 : 100 < N
    · have h1i : (100 : Int) < (N : Int) := by omega
      rw [← hN]
      clear h hN
      go_enter Tryd.func5, Tryd.ntmps5
      go_wp2_with (go_at_call 6; refine (awake8_any _).mono ?_; rintro e w5 ⟨rfl, hb5⟩)
      go_ret
      exact ⟨rfl, hb5⟩
    · have h1i : ¬ (100 : Int) < (N : Int) := by omega
      have hsm := h.1
      have HTR0 : ∀ W, Below w.heap.size w W → Calls Tryd.prog 11 #[.slice ao l.length cap] W fun e w' => ∃ lv, e = .returned (.tuple #[.string (str (sW l ((l.length - 1) / 2))), lv]) ∧ OwnV w' W.heap.size 50 5 lv ((tW l ((l.length - 1) / 2)).map ndC) ∧ Below W.heap.size W w' := (fun W (hb : Below w.heap.size w W) => tree_any W ao cap l ⟨h.1, h.2.1, h.2.2.1, by
        rcases h.2.2.2 with q | ⟨b, off, e, hb2, hc⟩
        · exact .inl q
        · exact .inr ⟨b, off, e, Nat.lt_of_lt_of_le hb2 hb.size, fun i hi => (hb.cell (p := ⟨b, off + i, none⟩) hb2).trans (hc i hi)⟩⟩ (by omega) (by omega))
      obtain ⟨J, hJ⟩ : ∃ J, J = (l.length - 1) / 2 := ⟨_, rfl⟩
      have hJ1 : J ≤ 50 := by omega
      have hps := psN_small hsm J
      have hg0 := getD_small hsm 0
      have hmath := left_math hg0 hps (by rw [psN_len]; omega)
      have hsmall := left_small hg0 hps
      have hslen := sW_len hsm J
      have hTl := tW_len l J
      have HPR : ∀ W, Calls Tryd.prog 7 #[.string (⟨#[112, 114, 111, 99, 32, 109, 32, 40, 32, 41, 32, 123, 32, 120, 32, 61, 32]⟩ ++ str (sW l J) ++ ⟨#[32, 59, 32, 125]⟩)] W (ProgOut W ([⟨[109], [], [], [], [.mk 1 [120] [] (tW l J) [] [] []]⟩], 0, 0)) := by
        intro W
        have e : (⟨#[112, 114, 111, 99, 32, 109, 32, 40, 32, 41, 32, 123, 32, 120, 32, 61, 32]⟩ : ByteArray) ++ str (sW l J) ++ ⟨#[32, 59, 32, 125]⟩ = str (leftT (l.getD 0 0) (psN l J)) := by
          unfold leftT
          rw [str_app, str_app]
          rfl
        have hp := pProg_any W (str (leftT (l.getD 0 0) (psN l J))) (by rw [size_str]; unfold leftT; simp only [List.length_append, List.length_cons, List.length_nil]; show 17 + (sW l J).length + 4 ≤ _; omega)
        rw [lst_str hsmall, hmath] at hp
        rw [e]
        exact hp
      have HP := hid HPR
      rw [← hN]
      rw [← hJ, ← hN] at HTR0
      have HTR := hid HTR0
      clear HTR0
      obtain ⟨n1, hz1, hn1⟩ : ∃ n1, (str (sW l J)).size = n1 ∧ n1 ≤ 400 := ⟨_, rfl, by rw [size_str]; omega⟩
      have hq1 : ¬ 9223372036854775807 < 17 + n1 := by omega
      have hq2 : ¬ 9223372036854775807 < 17 + n1 + 4 := by omega
      clear HPR hmath hsmall hps hg0 hslen h hsm hN hJ
      go_enter Tryd.func5, Tryd.ntmps5
      go_wp2_with fail
      refine (HTR.out w (Below.refl _ _)).mono ?_
      rintro e w1 ⟨lv, rfl, hown, hb1⟩
      obtain ⟨ag, cg, rfl, hg1, hg2⟩ := own_len (1 + 2 * J) hown hTl
      obtain ⟨L1, hL1⟩ : ∃ L1, 1 + 2 * J = L1 := ⟨_, rfl⟩
      rw [hL1] at hown hg1 hTl ⊢
      unfold maxLen at hg2
      have HOW := hid hown
      have HB1 := hid hb1
      clear hown hb1 HTR
      go_wp2_with fail
      refine (HP.out _).mono ?_
      rintro e w2 ⟨v, rfl, hv, hb2⟩
      obtain ⟨gP, cp, gB, cb, ae, ce, rfl, hcp, hgP, h4, hcb, hgB, h3, hnd⟩ := pg_nodes hv
      rw [hTl] at h3 hnd
      have hst : Below w2.heap.size w2 (w2.alloc (.cells #[.slice (some ⟨gP, 0, none⟩) 1 cp] 25)) := (Below.refl _ _).alloc (Nat.le_refl _) _
      have hB2 := below_call HB1.out hb2 HB1.out.size
      have hW3 := below_call hB2 hst hB2.size
      have bX : BoxL (w2.alloc (.cells #[.slice (some ⟨gP, 0, none⟩) 1 cp] 25)) w2.heap.size [.slice (some ⟨gP, 0, none⟩) 1 cp] := BoxL.new _ _ _ _ rfl
      have h4' := (hst.cell (p := ⟨gP, 4, none⟩) hgP).trans h4
      have h3' := (hst.cell (p := ⟨gB, 3, none⟩) hgB).trans h3
      have HND := hid (SlF.move hnd (Same.ofBelow hst))
      have HOW2 := hid ((HOW.out.below hb2).below hst)
      have lP : gP < (w2.alloc (.cells #[.slice (some ⟨gP, 0, none⟩) 1 cp] 25)).heap.size := Nat.lt_of_lt_of_le hgP hst.size
      have lB : gB < (w2.alloc (.cells #[.slice (some ⟨gP, 0, none⟩) 1 cp] 25)).heap.size := Nat.lt_of_lt_of_le hgB hst.size
      clear hv hb2 hnd h4 h3 hst hB2 HOW
      go_wp2_with fail
      generalize w2.alloc (.cells #[.slice (some ⟨gP, 0, none⟩) 1 cp] 25) = W3 at *
      have k0 := bX.cells 0 _ rfl
      rw [Nat.zero_add] at k0
      have lX := bX.lt
      have HW3 := hid hW3
      have HX := hid k0
      have H4 := hid h4'
      have H3 := hid h3'
      have HOW3 := hid (OwnV.slf HOW2.out (by simp; intro t _; rfl))
      clear hW3 bX HOW2
      go_wp2_with (go_at_call 9; refine (pnum_any _ _).mono ?_; rintro e w4 ⟨rfl, hw4⟩; subst w4)
      go_loopw [8] (fun iv wr => ∃ i : Nat, i ≤ L1 ∧ iv = .int .i64 (i : Int) ∧ Below W3.heap.size W3 wr) (fun iv wr => L1 - (intOf iv).toNat)
      case atStart => exact ⟨0, by omega, rfl, Below.refl _ _⟩
      case round =>
        obtain ⟨i, hin, rfl, hb⟩ := hrel
        clear k0 h4' h3'
        by_cases hlt : i < L1
        · have hii : (i : Int) < (L1 : Int) := by omega
          have hi0 : (0 : Int) ≤ (i : Int) := by omega
          obtain ⟨g1, rfl, hg3, l1, hl1, hc1⟩ := slf_get HND.out hlt
          obtain ⟨g2, rfl, hg4, l2, hl2, hc2⟩ := slf_get HOW3.out hlt
          rw [hl1] at hl2
          obtain rfl := Option.some.inj hl2
          rw [List.getElem?_map] at hl1
          obtain ⟨nd, -, rfl⟩ := Option.map_eq_some_iff.1 hl1
          have HB := hid hb
          have hbd := hb.drew
          have z0 := (hbd.cell (p := ⟨w2.heap.size, 0, none⟩) lX).trans HX.out
          have z1 := (hbd.cell (p := ⟨gP, 4, none⟩) lP).trans H4.out
          have z2 := (hbd.cell (p := ⟨gB, 3, none⟩) lB).trans H3.out
          obtain ⟨x0, x1, x2, x3, x4⟩ := cells5_of (hc1.below hg3 hbd)
          obtain ⟨y0, y1, y2, y3, y4⟩ := cells5_of (hc2.below hg4 hbd)
          clear hc1 hc2 hl1 hb hbd
          go_wp2_with fail
          go_region_held3 (fun W' => W'.cell? ⟨w2.heap.size, 0, none⟩ = some (.slice (some ⟨gP, 0, none⟩) 1 cp) ∧ W'.cell? ⟨gP, 4, none⟩ = some (.slice (some ⟨gB, 0, none⟩) 1 cb) ∧ W'.cell? ⟨gB, 3, none⟩ = some (.slice (some ⟨g1, 0, none⟩) L1 ce) ∧ W'.cell? ⟨g1, i * 5, none⟩ = some (.int .i64 (nd.k : Int)) ∧ W'.cell? ⟨g1, i * 5 + 1, none⟩ = some (.int .i64 (nd.n : Int)) ∧ W'.cell? ⟨g1, i * 5 + 2, none⟩ = some (.string (str nd.s)) ∧ W'.cell? ⟨g1, i * 5 + 3, none⟩ = some (.int .i64 nd.a) ∧ W'.cell? ⟨g1, i * 5 + 4, none⟩ = some (.int .i64 nd.b) ∧ W'.cell? ⟨g2, i * 5, none⟩ = some (.int .i64 (nd.k : Int)) ∧ W'.cell? ⟨g2, i * 5 + 1, none⟩ = some (.int .i64 (nd.n : Int)) ∧ W'.cell? ⟨g2, i * 5 + 2, none⟩ = some (.string (str nd.s)) ∧ W'.cell? ⟨g2, i * 5 + 3, none⟩ = some (.int .i64 nd.a) ∧ W'.cell? ⟨g2, i * 5 + 4, none⟩ = some (.int .i64 nd.b)) (exact ⟨z0, z1, z2, x0, x1, x2, x3, x4, y0, y1, y2, y3, y4⟩) (first | fail)
          go_wp2
          refine ⟨⟨i + 1, by omega, by go_num, HB.out.drew⟩, ?_⟩
          simp only [intOf]
          omega
        · obtain rfl : i = L1 := by omega
          have hii : ¬ (i : Int) < (i : Int) := by omega
          have HB := hid (below_call HW3.out hb HW3.out.size)
          clear hb
          go_wp2_with (go_at_call 6; refine (awake8_any _).mono ?_; rintro e w5 ⟨rfl, hb5⟩)
          go_ret
          exact ⟨rfl, below_call HB.out hb5 HB.out.size⟩
end Go.Proofs.YtjofhaakkleecaaDoor
