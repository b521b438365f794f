/-
  Walks: what stands behind an operator, or in brackets.
-/
import Derived.Test.YtjofhaakkleecaaDoorQ5
namespace Go.Proofs.YtjofhaakkleecaaDoor
open Go.RowKit Lx
set_option linter.unusedSimpArgs false
set_option linter.unusedVariables false
set_option maxRecDepth 100000

theorem pbracket_disjunction {T : List Tk} (ok : Tks.Ok T) {d n : Nat} {p : Ps} (HC : TC 49 T (d + 1) n p) (HG : Good T p) {t tc : List Nat} (ht : t ≠ []) (hu : ∀ c ∈ t, c < 256) (hu2 : ∀ c ∈ tc, c < 256) (w : World) (B gT gR gt cap i : Nat) (ns : List Nd) (h : TS w B gT gR gt cap T i d ns) (hi : i < T.length) (hn : ns.length ≤ i) (hl : T.length ≤ i + 1 + n) :
    Calls Tryd.prog 67 #[.pointer (some ⟨gT, 0, none⟩), .string (str t), .func (.func 49) #[.pointer (some ⟨gT, 0, none⟩)] #[], .string (str tc)] w (TOut w B gT gR gt cap T d (brackR (tks T) t tc d p i ns)) := by
  obtain ⟨ao, m0, c, hb, ho⟩ := h.tree
  obtain ⟨c0, c1⟩ := hb.c
  have HS := hid h
  have HB := hid (show B ≤ w.heap.size by have := h.lt; have := h.hi; omega)
  have HI := hid hi
  have HN := hid hn
  have hd := h.deep
  have HLT := hid h.rs.len
  have HGR : Hid (∀ b, some gR = some b → b = gR ∨ B ≤ b) := hid (fun b e => by simp at e; exact .inl e.symm)
  have HU2 := hid hu2
  have HOK := hid ok
  clear hu2
  by_cases hk : (tks T i).t = t
  rotate_left
  · have HJ3 : Hid (brackR (tks T) t tc d p i ns = .bad 4 i) := hid (if_neg hk)
    have HP := hid (popen_no h.rs ok hi hu hk)
    clear h hb ho HC HG hk hl hn
    generalize str t = s at *
    go_enter Tryd.func67, Tryd.ntmps67
    go_wp2_with fail
    refine HP.out.mono ?_
    rintro e w1 ⟨hg, hb1⟩
    unfold Gone at hg
    subst hg
    refine ⟨rfl, ?_⟩
    rw [HJ3.out]
    exact ⟨rfl, (Kx.refl B gR w).below hb1 HB.out⟩
  ·
    by_cases hd50 : d = 50
    · have HJ3 : Hid (brackR (tks T) t tc d p i ns = .bad 5 i) := hid ((if_pos hk).trans (if_pos hd50))
      have HP := hid (popen_deep h.rs ok hi hu hk hd50)
      clear hd50 h hb ho HC HG hk hl hn
      generalize str t = s at *
      go_enter Tryd.func67, Tryd.ntmps67
      go_wp2_with fail
      refine HP.out.mono ?_
      rintro e w1 ⟨hg, hb1⟩
      unfold Gone at hg
      subst hg
      refine ⟨rfl, ?_⟩
      rw [HJ3.out]
      exact ⟨rfl, (Kx.refl B gR w).below hb1 HB.out⟩
    · have hm := ok.more hi (by rw [hk]; exact ht)
      have HJ2 : Hid (brackR (tks T) t tc d p i ns = (p (i + 1) ns).bind fun ns' l => takeR (tks T) tc ns' l) := hid ((if_pos hk).trans (if_neg hd50))
      have HP := hid (popen_yes h.rs ok hi hu hk hd50 h.deep)
      have HPG := hid (HG (i + 1) ns hm (by omega))
      have HCC := hid (fun W (hh : TS W B gT gR gt cap T (i + 1) (d + 1) ns) => HC W B gT gR gt cap (i + 1) ns hh hm (by omega) (by omega))
      clear h hb ho HC HG hk hl hn
      generalize str t = s at *
      generalize hpp : p (i + 1) ns = res at *
      have HPP := hid hpp
      clear hpp
      cases res with
      | bad x j =>
        go_enter Tryd.func67, Tryd.ntmps67
        go_wp2_with fail
        refine HP.out.mono ?_
        rintro e w1 ⟨rfl, hr1, hg1⟩
        have S1 := HS.out.moved hr1 hg1 (by omega)
        have HX1 := hid ((Kx.refl B gR w).grown hg1 HB.out HGR.out)
        have HS1 := hid S1
        obtain ⟨ao1, m1, k1, b1, -⟩ := S1.tree
        clear c0 c1 hr1 hg1 S1
        obtain ⟨c0, c1⟩ := b1.c
        clear b1
        go_wp2_with fail
        refine (HCC.out _ HS1.out).mono ?_
        rintro e w2 ⟨hg, hx2⟩
        unfold Gone at hg
        subst hg
        refine ⟨rfl, ?_⟩
        rw [HJ2.out]
        exact ⟨rfl, HX1.out.trans hx2⟩
      | ok ns' j =>
        have HP2 : Hid (i + 1 < j ∧ j < T.length ∧ ns'.length + (i + 1) ≤ ns.length + j) := HPG
        have HJ4 : Hid (brackR (tks T) t tc d p i ns = if (tks T j).t = tc then .ok ns' (j + 1) else .bad 4 j) := hid (HJ2.out.trans rfl)
        by_cases hk2 : (tks T j).t = tc
        · have HT := hid (fun W (hh : RS W gR gt cap T j (d + 1)) => ptake_yes hh HOK.out HP2.out.2.1 HU2.out hk2)
          have HJ3 := hid (HJ4.out.trans (if_pos hk2))
          clear hk2 HJ4 HU2
          generalize str tc = s2 at *
          go_enter Tryd.func67, Tryd.ntmps67
          go_wp2_with fail
          refine HP.out.mono ?_
          rintro e w1 ⟨rfl, hr1, hg1⟩
          have S1 := HS.out.moved hr1 hg1 (by omega)
          have HX1 := hid ((Kx.refl B gR w).grown hg1 HB.out HGR.out)
          have HS1 := hid S1
          obtain ⟨ao1, m1, k1, b1, -⟩ := S1.tree
          clear c0 c1 hr1 hg1 S1
          obtain ⟨c0, c1⟩ := b1.c
          clear b1
          go_wp2_with fail
          refine (HCC.out _ HS1.out).mono ?_
          rintro e w2 ⟨rfl, hs2, hx2⟩
          have HS2 := hid hs2
          have HX2 := hid (HX1.out.trans hx2)
          obtain ⟨ao2, m2, k2, b2, -⟩ := hs2.tree
          clear c0 c1 hs2 hx2
          obtain ⟨c0, c1⟩ := b2.c
          clear b2
          go_wp2_with fail
          refine (HT.out _ HS2.out.rs).mono ?_
          rintro e w3 ⟨rfl, hr3, hg3⟩
          have HS3 := hid (HS2.out.moved hr3 hg3 (by omega))
          have HX3 := hid (HX2.out.grown hg3 (by have := HX2.out.size; have := HB.out; omega) HGR.out)
          obtain ⟨ao3, m3, k3, b3, -⟩ := HS3.out.tree
          clear hr3 hg3 c0 c1
          obtain ⟨c0, c1⟩ := b3.c
          clear b3
          go_wp2_with fail
          refine (pshut_any HS3.out.rs (by omega)).mono ?_
          rintro e w4 ⟨rfl, hr4, hg4⟩
          have HS4 := hid (HS3.out.moved hr4 hg4 hd)
          have HX4 := hid (HX3.out.grown hg4 (by have := HX3.out.size; have := HB.out; omega) HGR.out)
          clear hr4 hg4 c0 c1
          go_wp2_with fail
          go_end0
          rw [HJ3.out]
          exact ⟨rfl, HS4.out, HX4.out⟩
        · have HT := hid (fun W (hh : RS W gR gt cap T j (d + 1)) => ptake_no hh HOK.out HP2.out.2.1 HU2.out hk2)
          have HJ3 := hid (HJ4.out.trans (if_neg hk2))
          clear hk2 HJ4 HU2
          generalize str tc = s2 at *
          go_enter Tryd.func67, Tryd.ntmps67
          go_wp2_with fail
          refine HP.out.mono ?_
          rintro e w1 ⟨rfl, hr1, hg1⟩
          have S1 := HS.out.moved hr1 hg1 (by omega)
          have HX1 := hid ((Kx.refl B gR w).grown hg1 HB.out HGR.out)
          have HS1 := hid S1
          obtain ⟨ao1, m1, k1, b1, -⟩ := S1.tree
          clear c0 c1 hr1 hg1 S1
          obtain ⟨c0, c1⟩ := b1.c
          clear b1
          go_wp2_with fail
          refine (HCC.out _ HS1.out).mono ?_
          rintro e w2 ⟨rfl, hs2, hx2⟩
          have HS2 := hid hs2
          have HX2 := hid (HX1.out.trans hx2)
          obtain ⟨ao2, m2, k2, b2, -⟩ := hs2.tree
          clear c0 c1 hs2 hx2
          obtain ⟨c0, c1⟩ := b2.c
          clear b2
          go_wp2_with fail
          refine (HT.out _ HS2.out.rs).mono ?_
          rintro e w3 ⟨hg, hb3⟩
          unfold Gone at hg
          subst hg
          refine ⟨rfl, ?_⟩
          rw [HJ3.out]
          exact ⟨rfl, HX2.out.below hb3 (by have := HX2.out.size; have := HB.out; omega)⟩
end Go.Proofs.YtjofhaakkleecaaDoor
