/-
  Walks: operators and their operands; chains of them.
-/
import Derived.Test.YtjofhaakkleecaaDoorQ5
namespace Go.Proofs.YtjofhaakkleecaaDoor
open Go.RowKit Lx
set_option linter.unusedSimpArgs false
set_option linter.unusedVariables false
set_option maxRecDepth 100000

theorem pjoins_sum {T : List Tk} (ok : Tks.Ok T) {d n : Nat} {p : Ps} (HC : TC 59 T d n p) (HG : Good T p) (rank : Nat) (hr0 : rank ≠ 0) (hr5 : rank ≤ 5) (w : World) (B gT gR gt cap i : Nat) (ns : List Nd) (h : TS w B gT gR gt cap T i d ns) (hi : i < T.length) (hn : ns.length ≤ i) (hl : T.length ≤ i + 1 + n) :
    Calls Tryd.prog 60 #[.pointer (some ⟨gT, 0, none⟩), .int .i64 (rank : Int), .func (.func 59) #[.pointer (some ⟨gT, 0, none⟩)] #[]] w (JOut w B gT gR gt cap T d (joinsR (tks T) rank p i ns)) := by
  obtain ⟨ao, m, c, hb, ho⟩ := h.tree
  obtain ⟨c0, c1⟩ := hb.c
  have HN := hid (pnext_any h.rs hi)
  have HO : Hid (∀ W : World, Calls Tryd.prog 63 #[.string (str (tks T i).t)] W fun e w' => e = .returned (.tuple #[.int .i64 ((opr (tks T i).t).1 : Int), .int .i64 ((opr (tks T i).t).2 : Int)]) ∧ w' = W) := hid fun W => poper_any W _ (by rw [tks_get hi]; exact ok.small i hi)
  have HS := hid h
  have hT := h.rs.len
  have hi2 : (i : Int) + 1 ≤ 8200 := by omega
  have HB := hid (show B ≤ w.heap.size by have := h.lt; have := h.hi; omega)
  have HJ := hid (rfl : joinsR (tks T) rank p i ns = joinsR (tks T) rank p i ns)
  have HJ2 : Hid (joinsR (tks T) rank p i ns = if (opr (tks T i).t).2 ≠ rank then .ok (false, ns) i else (p (i + 1) ns).bind fun ns' j => .ok (true, ns' ++ [⟨(opr (tks T i).t).1, 0, [], lastI ns, lastI ns'⟩]) j) := hid rfl
  by_cases hk : (opr (tks T i).t).2 = rank
  · have hm := ok.more hi (opr_text (by rw [hk]; exact hr0))
    have HP := hid (HG (i + 1) ns hm (by omega))
    have HCC := hid (fun W (hh : TS W B gT gR gt cap T (i + 1) d ns) => HC W B gT gR gt cap (i + 1) ns hh hm (by omega) (by omega))
    have hkk : (((opr (tks T i).t).2 : Int) == (rank : Int)) = true := by simp [hk]
    have HJ3 := hid (HJ2.out.trans (if_neg (fun hne => hne hk)))
    have HNL : Hid (ns.length ≤ 8200) := hid (by omega)
    have HN0 := hid hn
    have HX0 : Hid (∀ W, Kx B gR w W → B ≤ W.heap.size) := hid fun W hx => by have := hx.size; have := HB.out; omega
    clear h hb ho HC HG hk hl HJ HJ2 hr0 hn
    generalize str (tks T i).t = s at *
    generalize (opr (tks T i).t).1 = kk at *
    generalize (opr (tks T i).t).2 = rr at *
    generalize hpp : p (i + 1) ns = res at *
    have HPP := hid hpp
    clear hpp
    cases res with
    | bad x j =>
      go_enter Tryd.func60, Tryd.ntmps60
      go_wp2_with fail
      refine HN.out.mono ?_
      rintro e w1 ⟨rfl, hb1⟩
      have S1 := HS.out.below hb1
      have X1 := (Kx.refl B gR w).below hb1 HB.out
      go_wp2_with fail
      refine (HO.out _).mono ?_
      rintro e w2 ⟨rfl, rfl⟩
      have hx1 := S1.rs.box.c
      obtain ⟨ao1, m1, k1, b1, -⟩ := S1.tree
      clear c0 c1
      obtain ⟨c0, c1⟩ := b1.c
      obtain ⟨r0, r1, r2⟩ := hx1
      have rf := S1.rs.box.f
      have rl := S1.rs.box.lt
      have S2 := S1.moved S1.rs.step (grow_set (grow_refl w2 _) 1 _) S1.deep
      have X2 := X1.set (a := ⟨gR, 1, none⟩) (.inl rfl) (.int .i64 ((i : Int) + 1))
      have HS2 := hid S2
      have HX2 := hid X2
      clear hb1 S1 X1 b1 S2 X2
      go_wp2_with fail
      refine (proot_any HS2.out HNL.out).mono ?_
      rintro e w3 ⟨rfl, rfl⟩
      go_wp2_with fail
      refine (HCC.out _ HS2.out).mono ?_
      rintro e w4 ⟨hg, hx4⟩
      unfold Gone at hg
      subst hg
      refine ⟨rfl, ?_⟩
      rw [HJ3.out]
      exact ⟨rfl, HX2.out.trans hx4⟩
    | ok ns' j =>
      have HP2 : Hid (i + 1 < j ∧ j < T.length ∧ ns'.length + (i + 1) ≤ ns.length + j) := HP
      have HNL2 : Hid (ns'.length ≤ 8200) := hid (by have := HP2.out; have := HN0.out; omega)
      go_enter Tryd.func60, Tryd.ntmps60
      go_wp2_with fail
      refine HN.out.mono ?_
      rintro e w1 ⟨rfl, hb1⟩
      have S1 := HS.out.below hb1
      have X1 := (Kx.refl B gR w).below hb1 HB.out
      go_wp2_with fail
      refine (HO.out _).mono ?_
      rintro e w2 ⟨rfl, rfl⟩
      have hx1 := S1.rs.box.c
      obtain ⟨ao1, m1, k1, b1, -⟩ := S1.tree
      clear c0 c1
      obtain ⟨c0, c1⟩ := b1.c
      obtain ⟨r0, r1, r2⟩ := hx1
      have rf := S1.rs.box.f
      have rl := S1.rs.box.lt
      have S2 := S1.moved S1.rs.step (grow_set (grow_refl w2 _) 1 _) S1.deep
      have X2 := X1.set (a := ⟨gR, 1, none⟩) (.inl rfl) (.int .i64 ((i : Int) + 1))
      have HS2 := hid S2
      have HX2 := hid X2
      clear hb1 S1 X1 b1 S2 X2
      go_wp2_with fail
      refine (proot_any HS2.out HNL.out).mono ?_
      rintro e w3 ⟨rfl, rfl⟩
      go_wp2_with fail
      refine (HCC.out _ HS2.out).mono ?_
      rintro e w4 ⟨rfl, hs4, hx4⟩
      have HX4 := hid (HX2.out.trans hx4)
      have HS4 := hid hs4
      clear hs4 hx4 c0 c1 r0 r1 r2 rf
      go_wp2_with fail
      refine (proot_any HS4.out HNL2.out).mono ?_
      rintro e w5 ⟨rfl, rfl⟩
      go_wp2_with fail
      refine (padd_any HS4.out HNL2.out _ _ _).mono ?_
      rintro e w6 ⟨rfl, hs6, hx6⟩
      have HX6 := hid (HX4.out.trans hx6)
      have HS6 := hid hs6
      clear hs6 hx6
      go_wp2_with fail
      go_ret
      rw [HJ3.out]
      exact ⟨rfl, HS6.out, HX6.out⟩
  · have hkk : (((opr (tks T i).t).2 : Int) == (rank : Int)) = false := by simp; omega
    have HJ3 := hid (HJ2.out.trans (if_pos hk))
    clear h hb ho HC HG hk hl HJ HJ2 hr0 hn
    generalize str (tks T i).t = s at *
    generalize (opr (tks T i).t).1 = kk at *
    generalize (opr (tks T i).t).2 = rr at *
    go_enter Tryd.func60, Tryd.ntmps60
    go_wp2_with fail
    refine HN.out.mono ?_
    rintro e w1 ⟨rfl, hb1⟩
    have S1 := HS.out.below hb1
    have X1 := (Kx.refl B gR w).below hb1 HB.out
    go_wp2_with fail
    refine (HO.out _).mono ?_
    rintro e w2 ⟨rfl, rfl⟩
    go_wp2_with fail
    go_ret
    rw [HJ3.out]
    exact ⟨rfl, S1, X1⟩
end Go.Proofs.YtjofhaakkleecaaDoor
