/-
  Walks: comparisons, conditions.
-/
import Derived.Test.YtjofhaakkleecaaDoorQ8
namespace Go.Proofs.YtjofhaakkleecaaDoor
open Go.RowKit Lx
set_option linter.unusedSimpArgs false
set_option linter.unusedVariables false
set_option maxRecDepth 100000

section
variable {T : List Tk}
theorem pcompare_any (ok : Tks.Ok T) {F d n : Nat} (hF : T.length ≤ F) : TC 69 T d n (orderR (tks T) F d) := by
  intro w B gT gR gt cap i ns h hi hn hl
  have HP := hid (psum_all ok hF F d w B gT gR gt cap i ns h hi hn (by omega))
  have HPG := hid (sum_good ok F F d i ns hi hn)
  have HU0 : Hid (orderR (tks T) F d i ns = (sumR (tks T) F F d i ns).bind fun ns' j => (joinsR (tks T) 3 (sumR (tks T) F F d) j ns').bind fun b l => if b.1 = true then .ok b.2 l else .bad 4 l) := hid rfl
  have HJ : Hid (∀ W j ns', TS W B gT gR gt cap T j d ns' → j < T.length → ns'.length ≤ j → Calls Tryd.prog 60 #[.pointer (some ⟨gT, 0, none⟩), .int .i64 3, .func (.func 59) #[.pointer (some ⟨gT, 0, none⟩)] #[]] W (JOut W B gT gR gt cap T d (joinsR (tks T) 3 (sumR (tks T) F F d) j ns'))) :=
    hid fun W j ns' hh h1 h2 => pjoins_sum ok (psum_all ok hF F d) (sum_good ok F F d) 3 (by decide) (by decide) W B gT gR gt cap j ns' hh h1 h2 (by omega)
  have HF : Hid (∀ j ns', j < T.length → ns'.length ≤ j → FineJ T j ns' (joinsR (tks T) 3 (sumR (tks T) F F d) j ns')) := hid fun j ns' h1 h2 => joins_fine ok (sum_good ok F F d) (by decide) h1 h2
  have HB := hid (show B ≤ w.heap.size by have := h.lt; have := h.hi; omega)
  have HN := hid hn
  clear h hi hn hl ok hF
  generalize hpp : sumR (tks T) F F d i ns = res at *
  have HPP := hid hpp
  clear hpp
  cases res with
  | bad x j =>
    go_enter Tryd.func69, Tryd.ntmps69
    go_wp2_with fail
    refine HP.out.mono ?_
    rintro e w1 ⟨hg, hx⟩
    unfold Gone at hg
    subst hg
    refine ⟨rfl, ?_⟩
    rw [HU0.out]
    exact ⟨rfl, hx⟩
  | ok ns' j =>
    have HP2 : Hid (i < j ∧ j < T.length ∧ ns'.length + i ≤ ns.length + j) := HPG
    have HU1 : Hid (orderR (tks T) F d i ns = (joinsR (tks T) 3 (sumR (tks T) F F d) j ns').bind fun b l => if b.1 = true then .ok b.2 l else .bad 4 l) := hid (HU0.out.trans rfl)
    have HNJ : Hid (ns'.length ≤ j) := hid (by have := HP2.out; have := HN.out; omega)
    have HFj := hid (HF.out j ns' HP2.out.2.1 HNJ.out)
    have HJj := hid (fun W hh => HJ.out W j ns' hh HP2.out.2.1 HNJ.out)
    clear HF HJ HU0
    generalize hjr : joinsR (tks T) 3 (sumR (tks T) F F d) j ns' = jr at *
    clear hjr
    cases jr with
    | bad x l =>
      go_enter Tryd.func69, Tryd.ntmps69
      go_wp2_with fail
      refine HP.out.mono ?_
      rintro e w1 ⟨rfl, hs1, hx1⟩
      have HS1 := hid hs1
      have HX1 := hid hx1
      clear hs1 hx1
      go_wp2_with fail
      refine (HJj.out _ HS1.out).mono ?_
      rintro e w2 ⟨hg, hx2⟩
      unfold Gone at hg
      subst hg
      refine ⟨rfl, ?_⟩
      rw [HU1.out]
      exact ⟨rfl, HX1.out.trans hx2⟩
    | ok bb l =>
      obtain ⟨b, ns2⟩ := bb
      have HFb : Hid ((b = true → j < l) ∧ (b = false → l = j ∧ ns2 = ns') ∧ j ≤ l ∧ l < T.length ∧ ns2.length + j ≤ ns'.length + l) := HFj
      cases b
      · go_enter Tryd.func69, Tryd.ntmps69
        go_wp2_with fail
        refine HP.out.mono ?_
        rintro e w1 ⟨rfl, hs1, hx1⟩
        have HS1 := hid hs1
        have HX1 := hid hx1
        clear hs1 hx1
        go_wp2_with fail
        refine (HJj.out _ HS1.out).mono ?_
        rintro e w2 ⟨rfl, hs2, hx2⟩
        have HS2 := hid hs2
        have HX2 := hid (HX1.out.trans hx2)
        obtain ⟨ao2, m2, k2, b2, -⟩ := hs2.tree
        clear hs2 hx2
        obtain ⟨c0, c1⟩ := b2.c
        clear b2
        go_wp2_with fail
        refine (prefuse_any HS2.out.rs HFb.out.2.2.2.1 4).mono ?_
        rintro e w3 ⟨hg, hb3⟩
        unfold Gone at hg
        subst hg
        refine ⟨rfl, ?_⟩
        rw [HU1.out]
        exact ⟨rfl, HX2.out.below hb3 (by have := HX2.out.size; have := HB.out; omega)⟩
      · go_enter Tryd.func69, Tryd.ntmps69
        go_wp2_with fail
        refine HP.out.mono ?_
        rintro e w1 ⟨rfl, hs1, hx1⟩
        have HS1 := hid hs1
        have HX1 := hid hx1
        clear hs1 hx1
        go_wp2_with fail
        refine (HJj.out _ HS1.out).mono ?_
        rintro e w2 ⟨rfl, hs2, hx2⟩
        have HS2 := hid hs2
        have HX2 := hid (HX1.out.trans hx2)
        clear hs2 hx2
        go_wp2_with fail
        go_end0
        rw [HU1.out]
        exact ⟨rfl, HS2.out, HX2.out⟩
/-- literal, by what the next token is; IH: by one token less. -/
theorem pliteral_step (ok : Tks.Ok T) {F d n : Nat} (hF : T.length ≤ F) (IH : TC 61 T (d + 1) n (litR (tks T) F n (d + 1))) (IS : TC 49 T (d + 1) n (disjR (tks T) F n (d + 1))) : TC 61 T d (n + 1) (litR (tks T) F (n + 1) d) := by
  intro w B gT gR gt cap i ns h hi hn hl
  have HL := hid (show T.length ≤ i + 1 + n by omega)
  have HN := hid (pnext_any h.rs hi)
  have HS := hid h
  have HB := hid (show B ≤ w.heap.size by have := h.lt; have := h.hi; omega)
  have HI := hid hi
  have HN0 := hid hn
  have HOK := hid ok
  have HIH := hid IH
  have HIS := hid IS
  have HCO := hid (fun W hh => pcompare_any ok (d := d) (n := F) hF W B gT gR gt cap i ns hh hi hn (by omega))
  have hsm : ∀ c ∈ (tks T i).t, c < 256 := by rw [tks_get hi]; exact ok.small i hi
  obtain ⟨ao, m0, c, hb, -⟩ := h.tree
  obtain ⟨c0, c1⟩ := hb.c
  by_cases k1 : (tks T i).t = [110, 111, 116]
  · have HU : Hid (litR (tks T) F (n + 1) d i ns = preR (tks T) [110, 111, 116] 18 d (litR (tks T) F n (d + 1)) i ns) := hid (if_pos k1)
    have e1 : ((str (tks T i).t).toList == [110, 111, 116]) = true := by rw [key_lit hsm]; exact decide_eq_true k1
    clear h hi hn hl hb hsm IH IS k1 ok hF
    go_enter Tryd.func61, Tryd.ntmps61; go_wp2_with fail; refine HN.out.mono ?_; rintro e w1 ⟨rfl, hb1⟩; have HS1 := hid (HS.out.below hb1); have HX1 := hid ((Kx.refl B gR w).below hb1 HB.out); clear hb1 c0 c1; go_wp2_with fail
    refine (pprefix_literal HOK.out HIH.out (lit_good HOK.out F n (d + 1)) (t := [110, 111, 116]) (by simp) (by simp) 18 _ B gT gR gt cap i ns HS1.out HI.out HN0.out HL.out).mono ?_
    (intro e w9 h9; rcases tout_cases h9 with ⟨ns9, j9, hr9, rfl, hs9, hx9⟩ | ⟨x9, j9, hr9, hg9, hx9⟩); (focus ((have HS9 := hid hs9); (have HX9 := hid hx9); (have HR9 := hid hr9); (clear hs9 hx9 hr9 h9); go_wp2_with fail; go_end0; (rw [HU.out, HR9.out]); exact ⟨rfl, HS9.out, HX1.out.trans HX9.out⟩)); (unfold Gone at hg9; subst hg9; refine ⟨rfl, ?_⟩; (rw [HU.out, hr9]); exact ⟨rfl, HX1.out.trans hx9⟩)
  · have e1 : ((str (tks T i).t).toList == [110, 111, 116]) = false := by rw [key_lit hsm]; exact decide_eq_false k1
    by_cases k2 : (tks T i).t = [91]
    · have HU : Hid (litR (tks T) F (n + 1) d i ns = brackR (tks T) [91] [93] d (disjR (tks T) F n (d + 1)) i ns) := hid ((if_neg k1).trans (if_pos k2))
      have e2 : ((str (tks T i).t).toList == [91]) = true := by rw [key_lit hsm]; exact decide_eq_true k2
      clear h hi hn hl hb hsm IH IS k1 k2 ok hF
      go_enter Tryd.func61, Tryd.ntmps61; go_wp2_with fail; refine HN.out.mono ?_; rintro e w1 ⟨rfl, hb1⟩; have HS1 := hid (HS.out.below hb1); have HX1 := hid ((Kx.refl B gR w).below hb1 HB.out); clear hb1 c0 c1; go_wp2_with fail
      refine (pbracket_disjunction HOK.out HIS.out (disj_good HOK.out F n (d + 1)) (t := [91]) (tc := [93]) (by simp) (by simp) (by simp) _ B gT gR gt cap i ns HS1.out HI.out HN0.out HL.out).mono ?_
      (intro e w9 h9; rcases tout_cases h9 with ⟨ns9, j9, hr9, rfl, hs9, hx9⟩ | ⟨x9, j9, hr9, hg9, hx9⟩); (focus ((have HS9 := hid hs9); (have HX9 := hid hx9); (have HR9 := hid hr9); (clear hs9 hx9 hr9 h9); go_wp2_with fail; go_end0; (rw [HU.out, HR9.out]); exact ⟨rfl, HS9.out, HX1.out.trans HX9.out⟩)); (unfold Gone at hg9; subst hg9; refine ⟨rfl, ?_⟩; (rw [HU.out, hr9]); exact ⟨rfl, HX1.out.trans hx9⟩)
    · have e2 : ((str (tks T i).t).toList == [91]) = false := by rw [key_lit hsm]; exact decide_eq_false k2
      by_cases k3 : (tks T i).t = [116, 114, 117, 101]
      · have HU : Hid (litR (tks T) F (n + 1) d i ns = .ok (ns ++ [⟨9, 0, [], -1, -1⟩]) (i + 1)) := hid ((if_neg k1).trans ((if_neg k2).trans (if_pos k3)))
        have e3 : ((str (tks T i).t).toList == [116, 114, 117, 101]) = true := by rw [key_lit hsm]; exact decide_eq_true k3
        clear h hi hn hl hb hsm IH IS k1 k2 k3 ok hF
        go_enter Tryd.func61, Tryd.ntmps61; go_wp2_with fail; refine HN.out.mono ?_; rintro e w1 ⟨rfl, hb1⟩; have HS1 := hid (HS.out.below hb1); have HX1 := hid ((Kx.refl B gR w).below hb1 HB.out); clear hb1 c0 c1; go_wp2_with fail
        refine (pconst_any HS1.out HI.out HN0.out 9).mono ?_
        rintro e w2 ⟨rfl, hs2, hx2⟩
        have HS2 := hid hs2
        have HX2 := hid (HX1.out.trans hx2)
        clear hs2 hx2
        go_wp2_with fail
        go_end0
        rw [HU.out]
        exact ⟨rfl, HS2.out, HX2.out⟩
      · have e3 : ((str (tks T i).t).toList == [116, 114, 117, 101]) = false := by rw [key_lit hsm]; exact decide_eq_false k3
        by_cases k4 : (tks T i).t = [102, 97, 108, 115, 101]
        · have HU : Hid (litR (tks T) F (n + 1) d i ns = .ok (ns ++ [⟨10, 0, [], -1, -1⟩]) (i + 1)) := hid ((if_neg k1).trans ((if_neg k2).trans ((if_neg k3).trans (if_pos k4))))
          have e4 : ((str (tks T i).t).toList == [102, 97, 108, 115, 101]) = true := by rw [key_lit hsm]; exact decide_eq_true k4
          clear h hi hn hl hb hsm IH IS k1 k2 k3 k4 ok hF
          go_enter Tryd.func61, Tryd.ntmps61; go_wp2_with fail; refine HN.out.mono ?_; rintro e w1 ⟨rfl, hb1⟩; have HS1 := hid (HS.out.below hb1); have HX1 := hid ((Kx.refl B gR w).below hb1 HB.out); clear hb1 c0 c1; go_wp2_with fail
          refine (pconst_any HS1.out HI.out HN0.out 10).mono ?_
          rintro e w2 ⟨rfl, hs2, hx2⟩
          have HS2 := hid hs2
          have HX2 := hid (HX1.out.trans hx2)
          clear hs2 hx2
          go_wp2_with fail
          go_end0
          rw [HU.out]
          exact ⟨rfl, HS2.out, HX2.out⟩
        · have e4 : ((str (tks T i).t).toList == [102, 97, 108, 115, 101]) = false := by rw [key_lit hsm]; exact decide_eq_false k4
          by_cases k5 : (tks T i).t = [42]
          · have HU : Hid (litR (tks T) F (n + 1) d i ns = .ok (ns ++ [⟨11, 0, [], -1, -1⟩]) (i + 1)) := hid ((if_neg k1).trans ((if_neg k2).trans ((if_neg k3).trans ((if_neg k4).trans (if_pos k5)))))
            have e5 : ((str (tks T i).t).toList == [42]) = true := by rw [key_lit hsm]; exact decide_eq_true k5
            clear h hi hn hl hb hsm IH IS k1 k2 k3 k4 k5 ok hF
            go_enter Tryd.func61, Tryd.ntmps61; go_wp2_with fail; refine HN.out.mono ?_; rintro e w1 ⟨rfl, hb1⟩; have HS1 := hid (HS.out.below hb1); have HX1 := hid ((Kx.refl B gR w).below hb1 HB.out); clear hb1 c0 c1; go_wp2_with fail
            refine (pconst_any HS1.out HI.out HN0.out 11).mono ?_
            rintro e w2 ⟨rfl, hs2, hx2⟩
            have HS2 := hid hs2
            have HX2 := hid (HX1.out.trans hx2)
            clear hs2 hx2
            go_wp2_with fail
            go_end0
            rw [HU.out]
            exact ⟨rfl, HS2.out, HX2.out⟩
          · have HU : Hid (litR (tks T) F (n + 1) d i ns = orderR (tks T) F d i ns) := hid ((if_neg k1).trans ((if_neg k2).trans ((if_neg k3).trans ((if_neg k4).trans (if_neg k5)))))
            have e5 : ((str (tks T i).t).toList == [42]) = false := by rw [key_lit hsm]; exact decide_eq_false k5
            clear h hi hn hl hb hsm IH IS k1 k2 k3 k4 k5 ok hF
            go_enter Tryd.func61, Tryd.ntmps61; go_wp2_with fail; refine HN.out.mono ?_; rintro e w1 ⟨rfl, hb1⟩; have HS1 := hid (HS.out.below hb1); have HX1 := hid ((Kx.refl B gR w).below hb1 HB.out); clear hb1 c0 c1; go_wp2_with fail
            refine (HCO.out _ HS1.out).mono ?_
            (intro e w9 h9; rcases tout_cases h9 with ⟨ns9, j9, hr9, rfl, hs9, hx9⟩ | ⟨x9, j9, hr9, hg9, hx9⟩); (focus ((have HS9 := hid hs9); (have HX9 := hid hx9); (have HR9 := hid hr9); (clear hs9 hx9 hr9 h9); go_wp2_with fail; go_end0; (rw [HU.out, HR9.out]); exact ⟨rfl, HS9.out, HX1.out.trans HX9.out⟩)); (unfold Gone at hg9; subst hg9; refine ⟨rfl, ?_⟩; (rw [HU.out, hr9]); exact ⟨rfl, HX1.out.trans hx9⟩)
theorem pconjunction_any (ok : Tks.Ok T) {F d n : Nat} (hF : T.length ≤ F) (HC : TC 61 T d n (litR (tks T) F n d)) : TC 57 T d n (conjR (tks T) F n d) := by
  intro w B gT gR gt cap i ns h hi hn hl
  have HP := hid (pchain_literal ok HC (lit_good ok F n d) 2 (by decide) (by decide) F w B gT gR gt cap i ns h hi hn hl hF)
  have HU : Hid (conjR (tks T) F n d i ns = chainR (tks T) F 2 (litR (tks T) F n d) i ns) := hid rfl
  have HX1 := hid (Kx.refl B gR w)
  clear HC h hi hn hl ok hF
  go_enter Tryd.func57, Tryd.ntmps57
  go_wp2_with fail
  refine HP.out.mono ?_
  (intro e w9 h9; rcases tout_cases h9 with ⟨ns9, j9, hr9, rfl, hs9, hx9⟩ | ⟨x9, j9, hr9, hg9, hx9⟩); (focus ((have HS9 := hid hs9); (have HX9 := hid hx9); (have HR9 := hid hr9); (clear hs9 hx9 hr9 h9); go_wp2_with fail; go_end0; (rw [HU.out, HR9.out]); exact ⟨rfl, HS9.out, HX1.out.trans HX9.out⟩)); (unfold Gone at hg9; subst hg9; refine ⟨rfl, ?_⟩; (rw [HU.out, hr9]); exact ⟨rfl, HX1.out.trans hx9⟩)
theorem pdisjunction_any (ok : Tks.Ok T) {F d n : Nat} (hF : T.length ≤ F) (HC : TC 57 T d n (conjR (tks T) F n d)) : TC 49 T d n (disjR (tks T) F n d) := by
  intro w B gT gR gt cap i ns h hi hn hl
  have HP := hid (pchain_conjunction ok HC (chain_good ok (lit_good ok F n d) (by decide) F) 1 (by decide) (by decide) F w B gT gR gt cap i ns h hi hn hl hF)
  have HU : Hid (disjR (tks T) F n d i ns = chainR (tks T) F 1 (conjR (tks T) F n d) i ns) := hid rfl
  have HX1 := hid (Kx.refl B gR w)
  clear HC h hi hn hl ok hF
  go_enter Tryd.func49, Tryd.ntmps49
  go_wp2_with fail
  refine HP.out.mono ?_
  (intro e w9 h9; rcases tout_cases h9 with ⟨ns9, j9, hr9, rfl, hs9, hx9⟩ | ⟨x9, j9, hr9, hg9, hx9⟩); (focus ((have HS9 := hid hs9); (have HX9 := hid hx9); (have HR9 := hid hr9); (clear hs9 hx9 hr9 h9); go_wp2_with fail; go_end0; (rw [HU.out, HR9.out]); exact ⟨rfl, HS9.out, HX1.out.trans HX9.out⟩)); (unfold Gone at hg9; subst hg9; refine ⟨rfl, ?_⟩; (rw [HU.out, hr9]); exact ⟨rfl, HX1.out.trans hx9⟩)
theorem pliteral_any (ok : Tks.Ok T) {F : Nat} (hF : T.length ≤ F) : ∀ n d, TC 61 T d n (litR (tks T) F n d)
  | 0, d => fun w B gT gR gt cap i ns h hi hn hl => by omega
  | n + 1, d => pliteral_step ok hF (pliteral_any ok hF n (d + 1)) (pdisjunction_any ok hF (pconjunction_any ok hF (pliteral_any ok hF n (d + 1))))
theorem pdisjunction_all (ok : Tks.Ok T) {F : Nat} (hF : T.length ≤ F) (n d : Nat) : TC 49 T d n (disjR (tks T) F n d) := pdisjunction_any ok hF (pconjunction_any ok hF (pliteral_any ok hF n d))
end
end Go.Proofs.YtjofhaakkleecaaDoor
