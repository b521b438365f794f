/-
  Walks: what stands between operators; sums; conditions.
-/
import Derived.Test.YtjofhaakkleecaaDoorQ6a
import Derived.Test.YtjofhaakkleecaaDoorQ6b
import Derived.Test.YtjofhaakkleecaaDoorQ6c
import Derived.Test.YtjofhaakkleecaaDoorQ6d
import Derived.Test.YtjofhaakkleecaaDoorQ6e
import Derived.Test.YtjofhaakkleecaaDoorQ7a
import Derived.Test.YtjofhaakkleecaaDoorQ7b
import Derived.Test.YtjofhaakkleecaaDoorQ7c
import Derived.Test.YtjofhaakkleecaaDoorQ7d
namespace Go.Proofs.YtjofhaakkleecaaDoor
open Go.RowKit Lx
set_option linter.unusedSimpArgs false
set_option linter.unusedVariables false
set_option maxRecDepth 100000

theorem tout_cases {w w' : World} {B gT gR gt cap d : Nat} {T : List Tk} {res : R (List Nd)} {e : Ending} (h : TOut w B gT gR gt cap T d res e w') :
    (∃ ns j, res = .ok ns j ∧ e = .returned (.tuple #[]) ∧ TS w' B gT gR gt cap T j d ns ∧ Kx B gR w w') ∨ (∃ x j, res = .bad x j ∧ Gone T x j e ∧ Kx B gR w w') := by
  cases res with
  | ok ns j => exact .inl ⟨ns, j, rfl, h⟩
  | bad x j => exact .inr ⟨x, j, rfl, h⟩

section
variable {T : List Tk}
/-- unary, by what the next token is; IH: by one token less. -/
theorem punary_step (ok : Tks.Ok T) {F d n : Nat} (hF : T.length ≤ F) (IH : TC 70 T (d + 1) n (unR (tks T) F n (d + 1))) (IS : TC 59 T (d + 1) n (sumR (tks T) F n (d + 1))) : TC 70 T d (n + 1) (unR (tks T) F (n + 1) d) := by
  intro w B gT gR gt cap i ns h hi hn hl
  have HL := hid (show T.length ≤ i + 1 + n by omega)
  have HN := hid (pnext_any h.rs hi)
  have HS := hid h
  have HB := hid (show B ≤ w.heap.size by have := h.lt; have := h.hi; omega)
  have HI := hid hi
  have HN0 := hid hn
  have HOK := hid ok
  have HIH := hid IH
  have HIS := hid IS
  have hsm : ∀ c ∈ (tks T i).t, c < 256 := by rw [tks_get hi]; exact ok.small i hi
  obtain ⟨ao, m0, c, hb, -⟩ := h.tree
  obtain ⟨c0, c1⟩ := hb.c
  by_cases k1 : (tks T i).t = [45]
  · have HU : Hid (unR (tks T) F (n + 1) d i ns = preR (tks T) [45] 3 d (unR (tks T) F n (d + 1)) i ns) := hid (if_pos k1)
    have e1 : ((str (tks T i).t).toList == [45]) = true := by rw [key_lit hsm]; exact decide_eq_true k1
    clear h hi hn hl hb hsm IH IS k1 ok hF
    go_enter Tryd.func70, Tryd.ntmps70
    go_wp2_with fail
    refine HN.out.mono ?_
    rintro e w1 ⟨rfl, hb1⟩
    have hb2 : Below w.heap.size w (w1.alloc (.cells #[.int .i64 ((tks T i).k : Int), .string (str (tks T i).t), .int .i64 ((tks T i).p : Int)] 35)) := hb1.alloc hb1.size _
    have HS1 := hid (HS.out.below hb2)
    have HX1 := hid ((Kx.refl B gR w).below hb2 HB.out)
    clear hb1 hb2 c0 c1
    go_wp2_with fail
    refine (pprefix_unary HOK.out HIH.out (un_good HOK.out F n (d + 1)) (t := [45]) (by simp) (by simp) 3 _ B gT gR gt cap i ns HS1.out HI.out HN0.out HL.out).mono ?_
    (intro e w9 h9; rcases tout_cases h9 with ⟨ns9, j9, hr9, rfl, hs9, hx9⟩ | ⟨x9, j9, hr9, hg9, hx9⟩); (focus ((have HS9 := hid hs9); (have HX9 := hid hx9); (have HR9 := hid hr9); (clear hs9 hx9 hr9 h9); go_wp2_with fail; go_end0; (rw [HU.out, HR9.out]); exact ⟨rfl, HS9.out, HX1.out.trans HX9.out⟩)); (unfold Gone at hg9; subst hg9; refine ⟨rfl, ?_⟩; (rw [HU.out, hr9]); exact ⟨rfl, HX1.out.trans hx9⟩)
  · have e1 : ((str (tks T i).t).toList == [45]) = false := by rw [key_lit hsm]; exact decide_eq_false k1
    by_cases k2 : (tks T i).t = [40]
    · have HU : Hid (unR (tks T) F (n + 1) d i ns = brackR (tks T) [40] [41] d (sumR (tks T) F n (d + 1)) i ns) := hid ((if_neg k1).trans (if_pos k2))
      have e2 : ((str (tks T i).t).toList == [40]) = true := by rw [key_lit hsm]; exact decide_eq_true k2
      clear h hi hn hl hb hsm IH IS k1 k2 ok hF
      go_enter Tryd.func70, Tryd.ntmps70
      go_wp2_with fail
      refine HN.out.mono ?_
      rintro e w1 ⟨rfl, hb1⟩
      have hb2 : Below w.heap.size w (w1.alloc (.cells #[.int .i64 ((tks T i).k : Int), .string (str (tks T i).t), .int .i64 ((tks T i).p : Int)] 35)) := hb1.alloc hb1.size _
      have HS1 := hid (HS.out.below hb2)
      have HX1 := hid ((Kx.refl B gR w).below hb2 HB.out)
      clear hb1 hb2 c0 c1
      go_wp2_with fail
      refine (pbracket_sum HOK.out HIS.out (sum_good HOK.out F n (d + 1)) (t := [40]) (tc := [41]) (by simp) (by simp) (by simp) _ B gT gR gt cap i ns HS1.out HI.out HN0.out HL.out).mono ?_
      (intro e w9 h9; rcases tout_cases h9 with ⟨ns9, j9, hr9, rfl, hs9, hx9⟩ | ⟨x9, j9, hr9, hg9, hx9⟩); (focus ((have HS9 := hid hs9); (have HX9 := hid hx9); (have HR9 := hid hr9); (clear hs9 hx9 hr9 h9); go_wp2_with fail; go_end0; (rw [HU.out, HR9.out]); exact ⟨rfl, HS9.out, HX1.out.trans HX9.out⟩)); (unfold Gone at hg9; subst hg9; refine ⟨rfl, ?_⟩; (rw [HU.out, hr9]); exact ⟨rfl, HX1.out.trans hx9⟩)
    · have e2 : ((str (tks T i).t).toList == [40]) = false := by rw [key_lit hsm]; exact decide_eq_false k2
      by_cases k3 : (tks T i).k = 2
      · have HU : Hid (unR (tks T) F (n + 1) d i ns = .ok (ns ++ [⟨1, numV (tks T i).t, [], -1, -1⟩]) (i + 1)) := hid ((if_neg k1).trans ((if_neg k2).trans (if_pos k3)))
        have e3 : (((tks T i).k : Int) == 2) = true := by simp; omega
        have K3 := hid k3
        clear h hi hn hl hb hsm IH IS k1 k2 k3 ok hF
        go_enter Tryd.func70, Tryd.ntmps70
        go_wp2_with fail
        refine HN.out.mono ?_
        rintro e w1 ⟨rfl, hb1⟩
        have hb2 : Below w.heap.size w (w1.alloc (.cells #[.int .i64 ((tks T i).k : Int), .string (str (tks T i).t), .int .i64 ((tks T i).p : Int)] 35)) := hb1.alloc hb1.size _
        have HS1 := hid (HS.out.below hb2)
        have HX1 := hid ((Kx.refl B gR w).below hb2 HB.out)
        clear hb1 hb2 c0 c1
        go_wp2_with fail
        refine (pnumber_any HS1.out HOK.out HI.out HN0.out K3.out).mono ?_
        rintro e w2 ⟨rfl, hs2, hx2⟩
        have HS2 := hid hs2
        have HX2 := hid (HX1.out.trans hx2)
        clear hs2 hx2
        go_wp2_with fail
        go_end0
        rw [HU.out]
        exact ⟨rfl, HS2.out, HX2.out⟩
      · have e3 : (((tks T i).k : Int) == 2) = false := by simp; omega
        have HU0 : Hid (unR (tks T) F (n + 1) d i ns = varR (tks T) i ns) := hid ((if_neg k1).trans ((if_neg k2).trans (if_neg k3)))
        by_cases k4 : (tks T i).k = 1
        · have HU : Hid (unR (tks T) F (n + 1) d i ns = .ok (ns ++ [⟨2, 0, (tks T i).t, -1, -1⟩]) (i + 1)) := hid (HU0.out.trans (if_pos k4))
          have K4 := hid k4
          clear h hi hn hl hb hsm IH IS k1 k2 k3 k4 ok hF HU0
          go_enter Tryd.func70, Tryd.ntmps70
          go_wp2_with fail
          refine HN.out.mono ?_
          rintro e w1 ⟨rfl, hb1⟩
          have hb2 : Below w.heap.size w (w1.alloc (.cells #[.int .i64 ((tks T i).k : Int), .string (str (tks T i).t), .int .i64 ((tks T i).p : Int)] 35)) := hb1.alloc hb1.size _
          have HS1 := hid (HS.out.below hb2)
          have HX1 := hid ((Kx.refl B gR w).below hb2 HB.out)
          clear hb1 hb2 c0 c1
          go_wp2_with fail
          refine (pvar_yes HS1.out HI.out HN0.out K4.out).mono ?_
          rintro e w2 ⟨rfl, hs2, hx2⟩
          have HS2 := hid hs2
          have HX2 := hid (HX1.out.trans hx2)
          clear hs2 hx2
          go_wp2_with fail
          go_end0
          rw [HU.out]
          exact ⟨rfl, HS2.out, HX2.out⟩
        · have HU : Hid (unR (tks T) F (n + 1) d i ns = .bad 4 i) := hid (HU0.out.trans (if_neg k4))
          have K4 := hid k4
          clear h hi hn hl hb hsm IH IS k1 k2 k3 k4 ok hF HU0
          go_enter Tryd.func70, Tryd.ntmps70
          go_wp2_with fail
          refine HN.out.mono ?_
          rintro e w1 ⟨rfl, hb1⟩
          have hb2 : Below w.heap.size w (w1.alloc (.cells #[.int .i64 ((tks T i).k : Int), .string (str (tks T i).t), .int .i64 ((tks T i).p : Int)] 35)) := hb1.alloc hb1.size _
          have HS1 := hid (HS.out.below hb2)
          have HX1 := hid ((Kx.refl B gR w).below hb2 HB.out)
          clear hb1 hb2 c0 c1
          go_wp2_with fail
          refine (pvar_no HS1.out HI.out K4.out).mono ?_
          rintro e w2 ⟨hg, hx2⟩
          unfold Gone at hg
          subst hg
          refine ⟨rfl, ?_⟩
          rw [HU.out]
          exact ⟨rfl, HX1.out.trans hx2⟩
theorem pproduct_any (ok : Tks.Ok T) {F d n : Nat} (hF : T.length ≤ F) (HC : TC 70 T d n (unR (tks T) F n d)) : TC 62 T d n (prodR (tks T) F n d) := by
  intro w B gT gR gt cap i ns h hi hn hl
  have HP := hid (pchain_unary ok HC (un_good ok F n d) 5 (by decide) (by decide) F w B gT gR gt cap i ns h hi hn hl hF)
  have HU : Hid (prodR (tks T) F n d i ns = chainR (tks T) F 5 (unR (tks T) F n d) i ns) := hid rfl
  have HX1 := hid (Kx.refl B gR w)
  clear HC h hi hn hl ok hF
  go_enter Tryd.func62, Tryd.ntmps62
  go_wp2_with fail
  refine HP.out.mono ?_
  (intro e w9 h9; rcases tout_cases h9 with ⟨ns9, j9, hr9, rfl, hs9, hx9⟩ | ⟨x9, j9, hr9, hg9, hx9⟩); (focus ((have HS9 := hid hs9); (have HX9 := hid hx9); (have HR9 := hid hr9); (clear hs9 hx9 hr9 h9); go_wp2_with fail; go_end0; (rw [HU.out, HR9.out]); exact ⟨rfl, HS9.out, HX1.out.trans HX9.out⟩)); (unfold Gone at hg9; subst hg9; refine ⟨rfl, ?_⟩; (rw [HU.out, hr9]); exact ⟨rfl, HX1.out.trans hx9⟩)
theorem psum_any (ok : Tks.Ok T) {F d n : Nat} (hF : T.length ≤ F) (HC : TC 62 T d n (prodR (tks T) F n d)) : TC 59 T d n (sumR (tks T) F n d) := by
  intro w B gT gR gt cap i ns h hi hn hl
  have HP := hid (pchain_product ok HC (chain_good ok (un_good ok F n d) (by decide) F) 4 (by decide) (by decide) F w B gT gR gt cap i ns h hi hn hl hF)
  have HU : Hid (sumR (tks T) F n d i ns = chainR (tks T) F 4 (prodR (tks T) F n d) i ns) := hid rfl
  have HX1 := hid (Kx.refl B gR w)
  clear HC h hi hn hl ok hF
  go_enter Tryd.func59, Tryd.ntmps59
  go_wp2_with fail
  refine HP.out.mono ?_
  (intro e w9 h9; rcases tout_cases h9 with ⟨ns9, j9, hr9, rfl, hs9, hx9⟩ | ⟨x9, j9, hr9, hg9, hx9⟩); (focus ((have HS9 := hid hs9); (have HX9 := hid hx9); (have HR9 := hid hr9); (clear hs9 hx9 hr9 h9); go_wp2_with fail; go_end0; (rw [HU.out, HR9.out]); exact ⟨rfl, HS9.out, HX1.out.trans HX9.out⟩)); (unfold Gone at hg9; subst hg9; refine ⟨rfl, ?_⟩; (rw [HU.out, hr9]); exact ⟨rfl, HX1.out.trans hx9⟩)
theorem punary_any (ok : Tks.Ok T) {F : Nat} (hF : T.length ≤ F) : ∀ n d, TC 70 T d n (unR (tks T) F n d)
  | 0, d => fun w B gT gR gt cap i ns h hi hn hl => by omega
  | n + 1, d => punary_step ok hF (punary_any ok hF n (d + 1)) (psum_any ok hF (pproduct_any ok hF (punary_any ok hF n (d + 1))))
theorem psum_all (ok : Tks.Ok T) {F : Nat} (hF : T.length ≤ F) (n d : Nat) : TC 59 T d n (sumR (tks T) F n d) := psum_any ok hF (pproduct_any ok hF (punary_any ok hF n d))
end
end Go.Proofs.YtjofhaakkleecaaDoor
