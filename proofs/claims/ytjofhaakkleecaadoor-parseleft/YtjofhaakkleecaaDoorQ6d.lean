/-
  Walks: operators and their operands; chains of them.
-/
import Derived.Test.YtjofhaakkleecaaDoorQ5
namespace Go.Proofs.YtjofhaakkleecaaDoor
open Go.RowKit Lx
set_option linter.unusedSimpArgs false
set_option linter.unusedVariables false
set_option maxRecDepth 100000

theorem pjoins_unary {T : List Tk} (ok : Tks.Ok T) {d n : Nat} {p : Ps} (HC : TC 70 T d n p) (HG : Good T p) (rank : Nat) (hr0 : rank ≠ 0) (hr5 : rank ≤ 5) (w : World) (B gT gR gt cap i : Nat) (ns : List Nd) (h : TS w B gT gR gt cap T i d ns) (hi : i < T.length) (hn : ns.length ≤ i) (hl : T.length ≤ i + 1 + n) :
    Calls Tryd.prog 60 #[.pointer (some ⟨gT, 0, none⟩), .int .i64 (rank : Int), .func (.func 70) #[.pointer (some ⟨gT, 0, none⟩)] #[]] w (JOut w B gT gR gt cap T d (joinsR (tks T) rank p i ns)) := by
  obtain ⟨ao, m, c, hb, ho⟩ := h.tree
  obtain ⟨c0, c1⟩ := hb.c
  have HN := hid (pnext_any h.rs hi)
  have HO : Hid (∀ W : World, Calls Tryd.prog 63 #[.string (str (tks T i).t)] W fun e w' => e = .returned (.tuple #[.int .i64 ((opr (tks T i).t).1 : Int), .int .i64 ((opr (tks T i).t).2 : Int)]) ∧ w' = W) := hid fun W => poper_any W _ (by rw [tks_get hi]; exact ok.small i hi)
  have HS := hid h
  have hT := h.rs.len
  have hi2 : (i : Int) + 1 ≤ 8200 := by omega
  have HB := hid (show B ≤ w.heap.size by have := h.lt; have := h.hi; omega)
  have HJ := hid (rfl : joinsR (tks T) rank p i ns = joinsR (tks T) rank p i ns)
  have HJ2 : Hid (joinsR (tks T) rank p i ns = if (opr (tks T i).t).2 ≠ rank then .ok (false, ns) i else (p (i + 1) ns).bind fun ns' j => .ok (true, ns' ++ [⟨(opr (tks T i).t).1, 0, [], lastI ns, lastI ns'⟩]) j) := hid rfl
  by_cases hk : (opr (tks T i).t).2 = rank
  · have hm := ok.more hi (opr_text (by rw [hk]; exact hr0))
    have HP := hid (HG (i + 1) ns hm (by omega))
    have HCC := hid (fun W (hh : TS W B gT gR gt cap T (i + 1) d ns) => HC W B gT gR gt cap (i + 1) ns hh hm (by omega) (by omega))
    have hkk : (((opr (tks T i).t).2 : Int) == (rank : Int)) = true := by simp [hk]
    have HJ3 := hid (HJ2.out.trans (if_neg (fun hne => hne hk)))
    have HNL : Hid (ns.length ≤ 8200) := hid (by omega)
    have HN0 := hid hn
    have HX0 : Hid (∀ W, Kx B gR w W → B ≤ W.heap.size) := hid fun W hx => by have := hx.size; have := HB.out; omega
    clear h hb ho HC HG hk hl HJ HJ2 hr0 hn
    generalize str (tks T i).t = s at *
    generalize (opr (tks T i).t).1 = kk at *
    generalize (opr (tks T i).t).2 = rr at *
    generalize hpp : p (i + 1) ns = res at *
    have HPP := hid hpp
    clear hpp
    cases res with
    | bad x j =>
      go_enter Tryd.func60, Tryd.ntmps60
      go_wp2_with fail
      refine HN.out.mono ?_
      rintro e w1 ⟨rfl, hb1⟩
      have S1 := HS.out.below hb1
      have X1 := (Kx.refl B gR w).below hb1 HB.out
      go_wp2_with fail
      refine (HO.out _).mono ?_
      rintro e w2 ⟨rfl, rfl⟩
      have hx1 := S1.rs.box.c
      obtain ⟨ao1, m1, k1, b1, -⟩ := S1.tree
      clear c0 c1
      obtain ⟨c0, c1⟩ := b1.c
      obtain ⟨r0, r1, r2⟩ := hx1
      have rf := S1.rs.box.f
      have rl := S1.rs.box.lt
      have S2 := S1.moved S1.rs.step (grow_set (grow_refl w2 _) 1 _) S1.deep
      have X2 := X1.set (a := ⟨gR, 1, none⟩) (.inl rfl) (.int .i64 ((i : Int) + 1))
      have HS2 := hid S2
      have HX2 := hid X2
      clear hb1 S1 X1 b1 S2 X2
      go_wp2_with fail
      refine (proot_any HS2.out HNL.out).mono ?_
      rintro e w3 ⟨rfl, rfl⟩
      go_wp2_with fail
      refine (HCC.out _ HS2.out).mono ?_
      rintro e w4 ⟨hg, hx4⟩
      unfold Gone at hg
      subst hg
      refine ⟨rfl, ?_⟩
      rw [HJ3.out]
      exact ⟨rfl, HX2.out.trans hx4⟩
    | ok ns' j =>
      have HP2 : Hid (i + 1 < j ∧ j < T.length ∧ ns'.length + (i + 1) ≤ ns.length + j) := HP
      have HNL2 : Hid (ns'.length ≤ 8200) := hid (by have := HP2.out; have := HN0.out; omega)
      go_enter Tryd.func60, Tryd.ntmps60
      go_wp2_with fail
      refine HN.out.mono ?_
      rintro e w1 ⟨rfl, hb1⟩
      have S1 := HS.out.below hb1
      have X1 := (Kx.refl B gR w).below hb1 HB.out
      go_wp2_with fail
      refine (HO.out _).mono ?_
      rintro e w2 ⟨rfl, rfl⟩
      have hx1 := S1.rs.box.c
      obtain ⟨ao1, m1, k1, b1, -⟩ := S1.tree
      clear c0 c1
      obtain ⟨c0, c1⟩ := b1.c
      obtain ⟨r0, r1, r2⟩ := hx1
      have rf := S1.rs.box.f
      have rl := S1.rs.box.lt
      have S2 := S1.moved S1.rs.step (grow_set (grow_refl w2 _) 1 _) S1.deep
      have X2 := X1.set (a := ⟨gR, 1, none⟩) (.inl rfl) (.int .i64 ((i : Int) + 1))
      have HS2 := hid S2
      have HX2 := hid X2
      clear hb1 S1 X1 b1 S2 X2
      go_wp2_with fail
      refine (proot_any HS2.out HNL.out).mono ?_
      rintro e w3 ⟨rfl, rfl⟩
      go_wp2_with fail
      refine (HCC.out _ HS2.out).mono ?_
      rintro e w4 ⟨rfl, hs4, hx4⟩
      have HX4 := hid (HX2.out.trans hx4)
      have HS4 := hid hs4
      clear hs4 hx4 c0 c1 r0 r1 r2 rf
      go_wp2_with fail
      refine (proot_any HS4.out HNL2.out).mono ?_
      rintro e w5 ⟨rfl, rfl⟩
      go_wp2_with fail
      refine (padd_any HS4.out HNL2.out _ _ _).mono ?_
      rintro e w6 ⟨rfl, hs6, hx6⟩
      have HX6 := hid (HX4.out.trans hx6)
      have HS6 := hid hs6
      clear hs6 hx6
      go_wp2_with fail
      go_ret
      rw [HJ3.out]
      exact ⟨rfl, HS6.out, HX6.out⟩
  · have hkk : (((opr (tks T i).t).2 : Int) == (rank : Int)) = false := by simp; omega
    have HJ3 := hid (HJ2.out.trans (if_pos hk))
    clear h hb ho HC HG hk hl HJ HJ2 hr0 hn
    generalize str (tks T i).t = s at *
    generalize (opr (tks T i).t).1 = kk at *
    generalize (opr (tks T i).t).2 = rr at *
    go_enter Tryd.func60, Tryd.ntmps60
    go_wp2_with fail
    refine HN.out.mono ?_
    rintro e w1 ⟨rfl, hb1⟩
    have S1 := HS.out.below hb1
    have X1 := (Kx.refl B gR w).below hb1 HB.out
    go_wp2_with fail
    refine (HO.out _).mono ?_
    rintro e w2 ⟨rfl, rfl⟩
    go_wp2_with fail
    go_ret
    rw [HJ3.out]
    exact ⟨rfl, S1, X1⟩
/-- What stands at the head of a round of the chain. -/
def ChainRel_unary (w : World) (B gT gR gt cap : Nat) (T : List Tk) (d F rank : Nat) (p : Ps) (j0 : Nat) (ns0 : List Nd) (M : Nat) (wr : World) : Prop :=
  ∃ m j ns, Hid (M = T.length - j) ∧ TS wr B gT gR gt cap T j d ns ∧ Kx B gR w wr ∧ j < T.length ∧ ns.length ≤ j ∧ j0 ≤ j ∧ T.length ≤ j + m ∧ Hid (moreR (tks T) rank p F j0 ns0 = moreR (tks T) rank p m j ns)
set_option maxHeartbeats 1600000 in
theorem pchain_unary {T : List Tk} (ok : Tks.Ok T) {d n : Nat} {p : Ps} (HC : TC 70 T d n p) (HG : Good T p) (rank : Nat) (hr0 : rank ≠ 0) (hr5 : rank ≤ 5) (F : Nat) (w : World) (B gT gR gt cap i : Nat) (ns : List Nd) (h : TS w B gT gR gt cap T i d ns) (hi : i < T.length) (hn : ns.length ≤ i) (hl : T.length ≤ i + n) (hF : T.length ≤ F) :
    Calls Tryd.prog 56 #[.pointer (some ⟨gT, 0, none⟩), .int .i64 (rank : Int), .func (.func 70) #[.pointer (some ⟨gT, 0, none⟩)] #[]] w (TOut w B gT gR gt cap T d (chainR (tks T) F rank p i ns)) := by
  have HP := hid (HG i ns hi hn)
  have HCC := hid (HC w B gT gR gt cap i ns h hi hn hl)
  have HJ : Hid (∀ W j ns', TS W B gT gR gt cap T j d ns' → j < T.length → ns'.length ≤ j → i ≤ j → Calls Tryd.prog 60 #[.pointer (some ⟨gT, 0, none⟩), .int .i64 (rank : Int), .func (.func 70) #[.pointer (some ⟨gT, 0, none⟩)] #[]] W (JOut W B gT gR gt cap T d (joinsR (tks T) rank p j ns'))) :=
    hid fun W j ns' hh h1 h2 h3 => pjoins_unary ok HC HG rank hr0 hr5 W B gT gR gt cap j ns' hh h1 h2 (by omega)
  have HF : Hid (∀ j ns', j < T.length → ns'.length ≤ j → FineJ T j ns' (joinsR (tks T) rank p j ns')) := hid fun j ns' h1 h2 => joins_fine ok HG hr0 h1 h2
  have HR : Hid (chainR (tks T) F rank p i ns = (p i ns).bind fun ns' j => moreR (tks T) rank p F j ns') := hid rfl
  have HFF := hid hF
  clear HC HG h hl hr0 hF
  generalize hpp : p i ns = res at *
  have HPP := hid hpp
  clear hpp
  cases res with
  | bad x j =>
    go_enter Tryd.func56, Tryd.ntmps56
    go_wp2_with fail
    refine HCC.out.mono ?_
    rintro e w1 ⟨hg, hx⟩
    unfold Gone at hg
    subst hg
    refine ⟨rfl, ?_⟩
    rw [HR.out]
    exact ⟨rfl, hx⟩
  | ok ns0 j0 =>
    have HP2 : Hid (i < j0 ∧ j0 < T.length ∧ ns0.length + i ≤ ns.length + j0) := HP
    go_enter Tryd.func56, Tryd.ntmps56
    go_wp2_with fail
    refine HCC.out.mono ?_
    rintro e w1 ⟨rfl, hs1, hx1⟩
    have HS1 := hid hs1
    have HX1 := hid hx1
    clear hs1 hx1 HCC
    go_wp2_with fail
    go_loopg [] (T.length - j0) (fun M wr => ChainRel_unary w B gT gR gt cap T d F rank p j0 ns0 M wr)
    case atStart => exact ⟨F, j0, ns0, hid rfl, HS1.out, HX1.out, HP2.out.2.1, by have := HP2.out; omega, Nat.le_refl _, by have := HFF.out; omega, hid rfl⟩
    case round =>
      obtain ⟨m, j, ns1, HM, hs, hx, hj, hn1, hjj, hm, HMR⟩ := hrel
      have HFj := hid (HF.out j ns1 hj hn1)
      have HJj := hid (HJ.out wr j ns1 hs hj hn1 (by have := HP2.out; omega))
      have HXr := hid hx
      obtain ⟨m', rfl⟩ : ∃ m', m = m' + 1 := ⟨m - 1, by omega⟩
      have HMR2 : Hid (moreR (tks T) rank p F j0 ns0 = (joinsR (tks T) rank p j ns1).bind fun b j => if b.1 = true then moreR (tks T) rank p m' j b.2 else .ok b.2 j) := hid (HMR.out.trans rfl)
      have HA := hid hjj
      have HB := hid hm
      clear hs hx hjj hm HMR
      generalize hjr : joinsR (tks T) rank p j ns1 = jr at *
      have HJR := hid hjr
      clear hjr
      cases jr with
      | bad x l =>
        go_wp2_with fail
        refine HJj.out.mono ?_
        rintro e w2 ⟨hg, hx2⟩
        unfold Gone at hg
        subst hg
        refine ⟨rfl, ?_⟩
        rw [HR.out]
        show TOut w B gT gR gt cap T d (moreR (tks T) rank p F j0 ns0) _ w2
        rw [HMR2.out]
        exact ⟨rfl, HXr.out.trans hx2⟩
      | ok bb l =>
        obtain ⟨b, ns2⟩ := bb
        have HFb : Hid ((b = true → j < l) ∧ (b = false → l = j ∧ ns2 = ns1) ∧ j ≤ l ∧ l < T.length ∧ ns2.length + j ≤ ns1.length + l) := HFj
        cases b
        · go_wp2_with fail
          refine HJj.out.mono ?_
          rintro e w2 ⟨rfl, hs2, hx2⟩
          have HS2 := hid hs2
          have HX2 := hid (HXr.out.trans hx2)
          clear hs2 hx2
          go_wp2_with fail
          go_end0
          rw [HR.out]
          show TOut w B gT gR gt cap T d (moreR (tks T) rank p F j0 ns0) _ w2
          rw [HMR2.out]
          exact ⟨rfl, HS2.out, HX2.out⟩
        · go_wp2_with fail
          refine HJj.out.mono ?_
          rintro e w2 ⟨rfl, hs2, hx2⟩
          have HS2 := hid hs2
          have HX2 := hid (HXr.out.trans hx2)
          clear hs2 hx2
          go_wp2_with fail
          go_roundg (T.length - l)
          case measure => have h1 := HFb.out.1 trivial; have h2 := HM.out; have h3 := HFb.out.2.2.2.1; omega
          case rel => exact ⟨m', l, ns2, hid rfl, HS2.out, HX2.out, HFb.out.2.2.2.1, by have := HFb.out.2.2; omega, by have := HFb.out.2.2.1; have := HA.out; omega, by have h1 := HFb.out.1 trivial; have := HB.out; omega, hid (by rw [HMR2.out]; rfl)⟩
end Go.Proofs.YtjofhaakkleecaaDoor
