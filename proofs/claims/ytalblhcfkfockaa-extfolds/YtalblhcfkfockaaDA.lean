/-
  Walks: whether a quotient may be, by the document.
  Walks: the document's own Quo.
  Walks: the document's own Quo and OfRat.
-/
import Derived.Test.YtalblhcfkfockaaRC
import Derived.Test.YtalblhcfkfockaaRX

namespace Go.Proofs.Ytalblhcfkfockaa
open Go.RowKit Lm
set_option linter.unusedSimpArgs false
set_option linter.unusedVariables false
set_option maxRecDepth 100000

theorem may_nil {n : Bool} : mayB n [] = !n := by simp [mayB]
theorem rm_nil {n1 : Bool} {l1 : List Nat} (o1 : ok l1) : ratMayB n1 l1 false [] = (decide (l1.length = 0) && !n1) := by
  have e : cmpI (sgn false (val [])) 0 = 0 := by simp [val, sgn, cmpI]
  have m2 : mayB false [] = true := by simp [mayB]
  unfold ratMayB
  rw [if_pos e, m2, Bool.true_and]
  by_cases h : l1.length = 0
  · have := List.eq_nil_of_length_eq_zero h
    subst this
    rw [may_nil]
    cases n1 <;> simp [val, sgn, cmpI]
  · rw [decide_eq_false h, Bool.false_and]
    cases hm : mayB n1 l1
    · rfl
    · have h2 : val l1 ≠ 0 := fun h3 => h (by rw [val_eq_zero (may_canon hm) h3]; rfl)
      have h4 : cmpI (sgn n1 (val l1)) 0 ≠ 0 := cmpI_ne (by
        have := sgn_abs n1 (val l1)
        omega)
      simpa using h4
theorem rm_may {n1 : Bool} {l1 : List Nat} {n2 : Bool} {l2 : List Nat} (m1 : mayB n1 l1 = true) (m2 : mayB n2 l2 = true) (h : l2.length ≠ 0) : ratMayB n1 l1 n2 l2 = (!n2 && decide (Nat.gcd (val l1) (val l2) = 1)) := by
  have h2 : val l2 ≠ 0 := fun h3 => h (by rw [val_eq_zero (may_canon m2) h3]; rfl)
  unfold ratMayB
  rw [m1, m2, Bool.true_and, Bool.true_and, sgn_abs, sgn_abs]
  have e : ((((Nat.gcd (val l1) (val l2) : Nat) : Int) = 1)) = (Nat.gcd (val l1) (val l2) = 1) := by
    apply propext
    omega
  cases n2
  · have hc : cmpI (sgn false (val l2)) 0 = 1 := cmpI_gt (by simp [sgn]; omega)
    rw [hc]
    simp [e]
  · have hc : cmpI (sgn true (val l2)) 0 = -1 := cmpI_lt (by simp [sgn]; omega)
    rw [hc]
    simp
theorem rm_no1 {n1 : Bool} {l1 : List Nat} {n2 : Bool} {l2 : List Nat} (m1 : mayB n1 l1 = false) : ratMayB n1 l1 n2 l2 = false := by unfold ratMayB; rw [m1]; rfl
theorem rm_no2 {n1 : Bool} {l1 : List Nat} {n2 : Bool} {l2 : List Nat} (m2 : mayB n2 l2 = false) : ratMayB n1 l1 n2 l2 = false := by unfold ratMayB; rw [m2]; simp
/-- A number that is told, opened. -/
theorem is_open {w : World} {lo n : Nat} {ng : Bool} {ag : Option Addr} {kg cg : Nat} {g : Nat} (h : Is w lo (.agg #[.bool ng, .slice ag kg cg]) n (g : Int)) : ∃ l, kg = l.length ∧ SlAt w ag cg l ∧ canon l ∧ val l = g := by
  obtain ⟨neg, ao, cap, l, e, hs, _, _, hm, hz⟩ := h
  simp only [Value.agg.injEq, Array.mk.injEq, List.cons.injEq, Value.bool.injEq, Value.slice.injEq, and_true] at e
  obtain ⟨rfl, rfl, rfl, rfl⟩ := e
  refine ⟨l, rfl, hs, may_canon hm, ?_⟩
  have := sgn_abs ng (val l)
  rw [← hz] at this
  simpa using this.symm

end Go.Proofs.Ytalblhcfkfockaa

namespace Go.Proofs.Ytalblhcfkfockaa
open Go.RowKit Lm
set_option linter.unusedSimpArgs false
set_option linter.unusedVariables false
set_option maxRecDepth 100000

/-- A number's box: no limbs lie in it. -/
theorem SlAt.offN {W W' : World} {ao : Option Addr} {cap g k d : Nat} {l : List Nat} {a : Option Addr} {b : Bool} (h : SlAt W ao cap l) (hg : Box W g (.bool b) (.slice a k d)) (hW : W.grownBy W' (some g)) : SlAt W' ao cap l := by
  by_cases h0 : l.length = 0
  · obtain ⟨h1, h2, h3, h4⟩ := h
    refine ⟨h1, h2, h3, ?_⟩
    rcases h4 with h4 | ⟨b', off, e, hlt, hc⟩
    · exact .inl h4
    · exact .inl ⟨h0, fun h => by rw [e] at h; simp at h⟩
  · refine slAt_grow h hW ?_
    rintro ad rfl hb
    obtain ⟨-, -, -, h4⟩ := h
    rcases h4 with h4 | ⟨b', off, e, hlt, hc⟩
    · exact h0 h4.1
    · simp only [Option.some.injEq] at e
      subst e
      simp only at hb
      subst hb
      have h5 := hc 0 (by omega)
      rw [cell_of_row W b' (off + 0) #[.bool b, .slice a k d] 27 (0, 0) hg] at h5
      rcases (show off = 0 ∨ off = 1 ∨ 2 ≤ off by omega) with rfl | rfl | h6
      · simp at h5
      · simp at h5
      · rw [Array.getElem?_eq_none (by simp; omega)] at h5
        simp at h5
def fill2 (W : World) (g : Nat) (p q : Value) : World := (W.setCell ⟨g, 0, none⟩ p).setCell ⟨g, 1, none⟩ q
theorem grow2 (W : World) (g : Nat) (p q : Value) : W.grownBy (fill2 W g p q) (some g) := grow_set (grow_set (grow_refl _ _) _ _) _ _
theorem fill2_eq (W : World) (g : Nat) (p q : Value) : (W.setCell ⟨g, 0, none⟩ p).setCell ⟨g, 1, none⟩ q = fill2 W g p q := rfl
theorem Box.filled {W : World} {g : Nat} {a b : Value} (h : Box W g a b) (p q : Value) : Box (fill2 W g p q) g p q := (h.set0 p).set1 q
theorem Box.beside2 {W : World} {g h : Nat} {a b : Value} (hg : Box W g a b) (hne : g ≠ h) (p q : Value) : Box (fill2 W h p q) g a b := (hg.other hne _).other hne _
theorem Box4.beside2 {W : World} {g h : Nat} {a b c d : Value} (hg : Box4 W g a b c d) (hne : g ≠ h) (p q : Value) : Box4 (fill2 W h p q) g a b c d := (hg.other hne _).other hne _
theorem below_fill2 {B : Nat} {w W : World} {g : Nat} (h : Below B w W) (hg : B ≤ g) (p q : Value) : Below B w (fill2 W g p q) := (h.setCell hg _).setCell hg _

section
variable {U W W' : World} {KA KI : List (Value × Nat × Int)} {KR KS : List (Value × Nat × Rat)} {u v : Value} {n m : Nat} {x y : Int} {r t : Rat}
theorem RE.refill2 {g k d : Nat} {a : Option Addr} {b : Bool} (E : RE U W KA KI KR KS) (hg : Box W g (.bool b) (.slice a k d)) (p q : Value) : RE (fill2 W g p q) (fill2 W g p q) KA KI KR KS := by
  have hW := grow2 W g p q
  refine ⟨fun o ho => ?_, fun o ho => ?_, fun o ho => ?_, fun o ho => ?_, Below.refl _ _⟩
  · obtain ⟨neg, sv, l, e, ⟨ao, cap, e2, hs⟩, hr⟩ := E.a o ho
    exact ⟨neg, sv, l, e, ⟨ao, cap, e2, hs.offN hg hW⟩, hr⟩
  · obtain ⟨neg, ao, cap, l, e, hs, hr⟩ := E.i o ho
    exact ⟨neg, ao, cap, l, e, hs.offN hg hW, hr⟩
  · obtain ⟨n1, s1, l1, n2, s2, l2, e, ⟨p1, q1, e1, h1⟩, ⟨p2, q2, e2, h2⟩, hr⟩ := E.r o ho
    exact ⟨n1, s1, l1, n2, s2, l2, e, ⟨p1, q1, e1, h1.offN hg hW⟩, ⟨p2, q2, e2, h2.offN hg hW⟩, hr⟩
  · obtain ⟨n1, p1, q1, c1, n2, p2, q2, c2, e, ⟨m1, b1, d1, l1, e1, s1, z1⟩, ⟨m2, b2, d2, l2, e2, s2, z2⟩⟩ := E.s o ho
    exact ⟨n1, p1, q1, c1, n2, p2, q2, c2, e, ⟨m1, b1, d1, l1, e1, s1.offN hg hW, z1⟩, ⟨m2, b2, d2, l2, e2, s2.offN hg hW, z2⟩⟩
/-- What the document's norm tells. -/
theorem re_norm (E : RE U W KA KI KR KS) (hu : (u, n, x) ∈ KA) : Calls Try.prog 35 #[u] W fun e w' => ∃ neg ao k cap, e = .returned (.agg #[.bool neg, .slice ao k cap]) ∧ Hid ((k = 0 ↔ x = 0) ∧ k ≤ n) ∧ RE U w' ((.agg #[.bool neg, .slice ao k cap], n, x) :: KA) KI KR KS := by
  refine (rnorm_h W W u n x (E.a _ hu) (Below.refl _ _)).mono ?_
  rintro e w' ⟨neg, ao, cap, k, l, rfl, HK, HC, hb⟩
  have hk := HK.out
  subst hk
  refine ⟨neg, ao, l.length, cap, rfl, hid ⟨⟨fun h => ?_, fun h => ?_⟩, HC.2.1⟩, (E.step hb).know ⟨neg, _, l, rfl, ⟨ao, cap, rfl, HC.1.below hb⟩, HC.2.1, by rw [mean_may HC.2.2.1]; exact HC.2.2.2⟩⟩
  · rw [HC.2.2.2, List.eq_nil_of_length_eq_zero h]
    simp [val, sgn]
  · have h2 := sgn_abs neg (val l)
    rw [← HC.2.2.2, h] at h2
    rw [val_eq_zero (may_canon HC.2.2.1) (by simpa using h2.symm)]
    rfl
theorem re_rgcd (E : RE U W KA KI KR KS) (hu : (u, n, x) ∈ KA) (hv : (v, m, y) ∈ KA) (hn : n ≤ 200000) (hm : m ≤ 200000) : Calls Try.prog 36 #[u, v] W (SaysN U KA KI KR KS (n + m) ((Nat.gcd x.natAbs y.natAbs : Nat) : Int)) :=
  (rgcd_num W u v n m x y (E.a _ hu) (E.a _ hv) hn hm).mono fun _ _ h => saysN_of E h
theorem re_rdiv (E : RE U W KA KI KR KS) (hu : (u, n, x) ∈ KA) (hv : (v, m, y) ∈ KA) (hy : y ≠ 0) (hn : n ≤ 200000) (hm : m ≤ 200000) : Calls Try.prog 37 #[u, v] W fun e w' => ∃ nq aq kq cq nr ar kr cr, e = .returned (.tuple #[.agg #[.bool nq, .slice aq kq cq], .agg #[.bool nr, .slice ar kr cr], .int .i64 0]) ∧ RE U w' ((.agg #[.bool nq, .slice aq kq cq], n, x.tdiv y) :: (.agg #[.bool nr, .slice ar kr cr], n + m, x.tmod y) :: KA) ((.agg #[.bool nq, .slice aq kq cq], n, x.tdiv y) :: (.agg #[.bool nr, .slice ar kr cr], n + m, x.tmod y) :: KI) KR KS := by
  refine (rdiv_num W u v n m x y (E.a _ hu) (E.a _ hv) hy hn hm).mono ?_
  rintro e w' ⟨nq, aq, kq, cq, nr, ar, kr, cr, rfl, hq, hr, hb⟩
  exact ⟨nq, aq, kq, cq, nr, ar, kr, cr, rfl, ((E.step hb).knowI hr).knowI hq⟩
theorem re_rneg (E : RE U W KA KI KR KS) (hu : (u, n, x) ∈ KA) (hn : n ≤ 500000) : Calls Try.prog 38 #[u] W (SaysN U KA KI KR KS n (-x)) :=
  (rneg_num W u n x (E.a _ hu) (by omega)).mono fun _ _ h => saysN_of E h
end

theorem is_neg {w : World} {lo n : Nat} {ng : Bool} {ag : Option Addr} {kg cg : Nat} {z : Int} (h : Is w lo (.agg #[.bool ng, .slice ag kg cg]) n z) : (ng = true → z < 0) ∧ (ng = false → 0 ≤ z) := by
  obtain ⟨neg, ao, cap, l, e, hs, _, _, hm, hz⟩ := h
  simp only [Value.agg.injEq, Array.mk.injEq, List.cons.injEq, Value.bool.injEq, Value.slice.injEq, and_true] at e
  obtain ⟨rfl, rfl, rfl, rfl⟩ := e
  refine ⟨fun h => ?_, fun h => ?_⟩
  · subst h
    have hne : val l ≠ 0 := by
      intro h0
      have := val_eq_zero (may_canon hm) h0
      subst this
      simp [mayB] at hm
    rw [hz]
    simp [sgn]
    omega
  · subst h
    rw [hz]
    simp [sgn]
/-- The least form, as the document reckons it. -/
theorem doc_least {p q : Int} (hq : q ≠ 0) (g : Int) (hg : g = ((Nat.gcd p.natAbs q.natAbs : Nat) : Int)) : (0 ≤ q.tdiv g → p.tdiv g = (Rat.divInt p q).num ∧ q.tdiv g = ((Rat.divInt p q).den : Int)) ∧ (q.tdiv g < 0 → -(p.tdiv g) = (Rat.divInt p q).num ∧ -(q.tdiv g) = ((Rat.divInt p q).den : Int)) := by
  have hgp : 0 < Nat.gcd p.natAbs q.natAbs := Nat.gcd_pos_of_pos_right _ (by omega)
  have hg0 : 0 < g := by omega
  rw [least_num p q hq, least_den p q hq]
  have hdv : g ∣ q := by
    rw [hg, ← Int.natAbs_dvd_natAbs]
    exact Nat.gcd_dvd_right _ _
  obtain ⟨c, hc⟩ := hdv
  have hqc : q.tdiv g = c := by rw [hc]; exact Int.mul_tdiv_cancel_left _ (by omega)
  by_cases hn : q < 0
  · have hd : dv p q = -g := by unfold dv; rw [if_pos hn, hg]
    rw [hd, Int.tdiv_neg, Int.tdiv_neg]
    refine ⟨fun h => ?_, fun h => ⟨rfl, rfl⟩⟩
    rw [hqc] at h
    have := Int.mul_nonneg (Int.le_of_lt hg0) h
    omega
  · have hd : dv p q = g := by unfold dv; rw [if_neg hn, hg]
    rw [hd]
    refine ⟨fun h => ⟨rfl, rfl⟩, fun h => ?_⟩
    rw [hqc] at h
    have := Int.mul_neg_of_pos_of_neg hg0 h
    omega

end Go.Proofs.Ytalblhcfkfockaa

namespace Go.Proofs.Ytalblhcfkfockaa
open Go.RowKit Lm
set_option linter.unusedSimpArgs false
set_option linter.unusedVariables false
set_option maxRecDepth 100000

set_option maxHeartbeats 3200000 in
theorem rquo_zero (w : World) (u v : Value) (n m : Nat) (x y : Int) (hx : Arg w u n x) (hy : Arg w v m y) (h0 : y = 0) (hn : n ≤ 50000) (hm : m ≤ 50000) :
    Calls Try.prog 20 #[u, v] w fun e w' => e = .returned (.tuple #[.agg #[.bool false, .slice none 0 0, .bool false, .slice none 0 0], .int .i64 11]) ∧ Below w.heap.size w w' := by
  have HX := hid hx
  have HY := hid hy
  have H0 := hid h0
  obtain ⟨n1, s1, q1, rfl, ⟨a1, c1, rfl, -⟩, -⟩ := hx
  obtain ⟨n2, s2, q2, rfl, ⟨a2, c2, rfl, -⟩, -⟩ := hy
  generalize q1.length = K1 at *
  generalize q2.length = K2 at *
  clear h0
  go_enter Try.func20, Try.ntmps20
  go_wp2_with fail
  have hW0 : Below w.heap.size w (((w.alloc (.cells #[.bool n1, .slice a1 K1 c1] 27)).alloc (.cells #[.bool n2, .slice a2 K2 c2] 27)).alloc (.cells #[.bool false, .slice none 0 0, .bool false, .slice none 0 0] 29)) := (by repeat (first | exact Below.refl _ _ | refine Below.alloc ?_ ?_ _ | refine Below.setCell ?_ ?_ _ | refine Below.drew ?_ | refine below_drewN ?_ _ | (· simp) | omega | (· simp; omega) | exact Below.size (by assumption) | assumption | refine below_call ?_ (by assumption) ?_))
  have bP : Box (((w.alloc (.cells #[.bool n1, .slice a1 K1 c1] 27)).alloc (.cells #[.bool n2, .slice a2 K2 c2] 27)).alloc (.cells #[.bool false, .slice none 0 0, .bool false, .slice none 0 0] 29)) w.heap.size (.bool n1) (.slice a1 K1 c1) := ((Box.new w _ _ _ rfl).alloc _).alloc _
  have bQ : Box (((w.alloc (.cells #[.bool n1, .slice a1 K1 c1] 27)).alloc (.cells #[.bool n2, .slice a2 K2 c2] 27)).alloc (.cells #[.bool false, .slice none 0 0, .bool false, .slice none 0 0] 29)) (w.heap.size + 1) (.bool n2) (.slice a2 K2 c2) := (Box.new _ _ _ _ (by simp)).alloc _
  have bR : Box4 (((w.alloc (.cells #[.bool n1, .slice a1 K1 c1] 27)).alloc (.cells #[.bool n2, .slice a2 K2 c2] 27)).alloc (.cells #[.bool false, .slice none 0 0, .bool false, .slice none 0 0] 29)) (w.heap.size + 1 + 1) (.bool false) (.slice none 0 0) (.bool false) (.slice none 0 0) := Box4.new _ _ _ _ _ _ (by simp)
  generalize (((w.alloc (.cells #[.bool n1, .slice a1 K1 c1] 27)).alloc (.cells #[.bool n2, .slice a2 K2 c2] 27)).alloc (.cells #[.bool false, .slice none 0 0, .bool false, .slice none 0 0] 29)) = W0 at *
  have E : RE W0 W0 [(.agg #[.bool n1, .slice a1 K1 c1], n, x), (.agg #[.bool n2, .slice a2 K2 c2], m, y)] [] [] [] := ((RE.none W0).know (HY.out.below hW0)).know (HX.out.below hW0)
  clear HX HY
  refine (re_norm E (List.Mem.head _)).mono ?_
  rintro e w1 ⟨m1, p1, j1, d1, rfl, HN1, E1⟩
  clear E
  replace bP := bP.keep E1.bl
  replace bQ := bQ.keep E1.bl
  replace bR := bR.keep E1.bl
  have hW1 := below_call hW0 E1.bl hW0.size
  have E2 := E1.refill2 bP (.bool m1) (.slice p1 j1 d1)
  have bP2 := bP.filled (.bool m1) (.slice p1 j1 d1)
  have bQ2 := bQ.beside2 (show w.heap.size + 1 ≠ w.heap.size by omega) (.bool m1) (.slice p1 j1 d1)
  have bR2 := bR.beside2 (show w.heap.size + 1 + 1 ≠ w.heap.size by omega) (.bool m1) (.slice p1 j1 d1)
  have hW2 := below_fill2 hW1 (show w.heap.size ≤ w.heap.size by omega) (.bool m1) (.slice p1 j1 d1)
  have x0 := bP.c0
  have x1 := bP.c1
  have xf := bP.f
  have y0 := bQ.c0
  have y1 := bQ.c1
  have lP := bP.lt
  have lQ := bQ.lt
  clear E1 bP bQ bR hW0 hW1
  go_wp2_with fail
  clear x0 x1 xf y0 y1 lP lQ
  rw [fill2_eq]
  generalize fill2 w1 w.heap.size (.bool m1) (.slice p1 j1 d1) = W2 at *
  refine (re_norm E2 (List.Mem.tail _ (List.Mem.tail _ (List.Mem.head _)))).mono ?_
  rintro e w3 ⟨m2, p2, j2, d2, rfl, HN2, E3⟩
  clear E2
  replace bP2 := bP2.keep E3.bl
  replace bQ2 := bQ2.keep E3.bl
  replace bR2 := bR2.keep E3.bl
  have hW3 := below_call hW2 E3.bl hW2.size
  have E4 := E3.refill2 bQ2 (.bool m2) (.slice p2 j2 d2)
  have bP4 := bP2.beside2 (show w.heap.size ≠ w.heap.size + 1 by omega) (.bool m2) (.slice p2 j2 d2)
  have bQ4 := bQ2.filled (.bool m2) (.slice p2 j2 d2)
  have bR4 := bR2.beside2 (show w.heap.size + 1 + 1 ≠ w.heap.size + 1 by omega) (.bool m2) (.slice p2 j2 d2)
  have hW4 := below_fill2 hW3 (show w.heap.size ≤ w.heap.size + 1 by omega) (.bool m2) (.slice p2 j2 d2)
  have y0 := bQ2.c0
  have y1 := bQ2.c1
  have yf := bQ2.f
  have lQ := bQ2.lt
  have lP := bP2.lt
  have hj2 : j2 ≤ 9223372036854775807 := by have := HN2.out.2; omega
  have hj0 : j2 = 0 := HN2.out.1.2 H0.out
  subst hj0
  obtain ⟨r0, r1, r2, r3⟩ := bR2.c
  have rf := bR2.f
  have lR := bR2.lt
  have HW := hid (below_fill4 hW4 (show w.heap.size ≤ w.heap.size + 1 + 1 by omega) (.bool false) (.slice none 0 0) (.bool false) (.slice none 0 0))
  clear E3 E4 bP2 bQ2 bR2 bP4 bQ4 bR4
  go_wp2
  refine bodyPost_ret (v := .tuple #[.agg #[.bool false, .slice none 0 0, .bool false, .slice none 0 0], .int .i64 11]) ?_ rfl ⟨rfl, HW.out⟩
  simp [results, Try.results20, go_sem, r0, r1, r2, r3]

set_option maxHeartbeats 3200000 in
theorem rquo_any (w : World) (u v : Value) (n m : Nat) (x y : Int) (hx : Arg w u n x) (hy : Arg w v m y) (h0 : y ≠ 0) (hn : n ≤ 50000) (hm : m ≤ 50000) :
    Calls Try.prog 20 #[u, v] w (QSay (n + m) (Rat.divInt x y) w) := by
  have HX := hid hx
  have HY := hid hy
  have H0 := hid h0
  obtain ⟨n1, s1, q1, rfl, ⟨a1, c1, rfl, -⟩, -⟩ := hx
  obtain ⟨n2, s2, q2, rfl, ⟨a2, c2, rfl, -⟩, -⟩ := hy
  generalize q1.length = K1 at *
  generalize q2.length = K2 at *
  clear h0
  go_enter Try.func20, Try.ntmps20
  go_wp2_with fail
  have hW0 : Below w.heap.size w (((w.alloc (.cells #[.bool n1, .slice a1 K1 c1] 27)).alloc (.cells #[.bool n2, .slice a2 K2 c2] 27)).alloc (.cells #[.bool false, .slice none 0 0, .bool false, .slice none 0 0] 29)) := (by repeat (first | exact Below.refl _ _ | refine Below.alloc ?_ ?_ _ | refine Below.setCell ?_ ?_ _ | refine Below.drew ?_ | refine below_drewN ?_ _ | (· simp) | omega | (· simp; omega) | exact Below.size (by assumption) | assumption | refine below_call ?_ (by assumption) ?_))
  have bP : Box (((w.alloc (.cells #[.bool n1, .slice a1 K1 c1] 27)).alloc (.cells #[.bool n2, .slice a2 K2 c2] 27)).alloc (.cells #[.bool false, .slice none 0 0, .bool false, .slice none 0 0] 29)) w.heap.size (.bool n1) (.slice a1 K1 c1) := ((Box.new w _ _ _ rfl).alloc _).alloc _
  have bQ : Box (((w.alloc (.cells #[.bool n1, .slice a1 K1 c1] 27)).alloc (.cells #[.bool n2, .slice a2 K2 c2] 27)).alloc (.cells #[.bool false, .slice none 0 0, .bool false, .slice none 0 0] 29)) (w.heap.size + 1) (.bool n2) (.slice a2 K2 c2) := (Box.new _ _ _ _ (by simp)).alloc _
  have bR : Box4 (((w.alloc (.cells #[.bool n1, .slice a1 K1 c1] 27)).alloc (.cells #[.bool n2, .slice a2 K2 c2] 27)).alloc (.cells #[.bool false, .slice none 0 0, .bool false, .slice none 0 0] 29)) (w.heap.size + 1 + 1) (.bool false) (.slice none 0 0) (.bool false) (.slice none 0 0) := Box4.new _ _ _ _ _ _ (by simp)
  generalize (((w.alloc (.cells #[.bool n1, .slice a1 K1 c1] 27)).alloc (.cells #[.bool n2, .slice a2 K2 c2] 27)).alloc (.cells #[.bool false, .slice none 0 0, .bool false, .slice none 0 0] 29)) = W0 at *
  have E : RE W0 W0 [(.agg #[.bool n1, .slice a1 K1 c1], n, x), (.agg #[.bool n2, .slice a2 K2 c2], m, y)] [] [] [] := ((RE.none W0).know (HY.out.below hW0)).know (HX.out.below hW0)
  clear HX HY
  refine (re_norm E (List.Mem.head _)).mono ?_
  rintro e w1 ⟨m1, p1, j1, d1, rfl, HN1, E1⟩
  clear E
  replace bP := bP.keep E1.bl
  replace bQ := bQ.keep E1.bl
  replace bR := bR.keep E1.bl
  have hW1 := below_call hW0 E1.bl hW0.size
  have E2 := E1.refill2 bP (.bool m1) (.slice p1 j1 d1)
  have bP2 := bP.filled (.bool m1) (.slice p1 j1 d1)
  have bQ2 := bQ.beside2 (show w.heap.size + 1 ≠ w.heap.size by omega) (.bool m1) (.slice p1 j1 d1)
  have bR2 := bR.beside2 (show w.heap.size + 1 + 1 ≠ w.heap.size by omega) (.bool m1) (.slice p1 j1 d1)
  have hW2 := below_fill2 hW1 (show w.heap.size ≤ w.heap.size by omega) (.bool m1) (.slice p1 j1 d1)
  have x0 := bP.c0
  have x1 := bP.c1
  have xf := bP.f
  have y0 := bQ.c0
  have y1 := bQ.c1
  have lP := bP.lt
  have lQ := bQ.lt
  clear E1 bP bQ bR hW0 hW1
  go_wp2_with fail
  clear x0 x1 xf y0 y1 lP lQ
  rw [fill2_eq]
  generalize fill2 w1 w.heap.size (.bool m1) (.slice p1 j1 d1) = W2 at *
  refine (re_norm E2 (List.Mem.tail _ (List.Mem.tail _ (List.Mem.head _)))).mono ?_
  rintro e w3 ⟨m2, p2, j2, d2, rfl, HN2, E3⟩
  clear E2
  replace bP2 := bP2.keep E3.bl
  replace bQ2 := bQ2.keep E3.bl
  replace bR2 := bR2.keep E3.bl
  have hW3 := below_call hW2 E3.bl hW2.size
  have E4 := E3.refill2 bQ2 (.bool m2) (.slice p2 j2 d2)
  have bP4 := bP2.beside2 (show w.heap.size ≠ w.heap.size + 1 by omega) (.bool m2) (.slice p2 j2 d2)
  have bQ4 := bQ2.filled (.bool m2) (.slice p2 j2 d2)
  have bR4 := bR2.beside2 (show w.heap.size + 1 + 1 ≠ w.heap.size + 1 by omega) (.bool m2) (.slice p2 j2 d2)
  have hW4 := below_fill2 hW3 (show w.heap.size ≤ w.heap.size + 1 by omega) (.bool m2) (.slice p2 j2 d2)
  have y0 := bQ2.c0
  have y1 := bQ2.c1
  have yf := bQ2.f
  have lQ := bQ2.lt
  have lP := bP2.lt
  have hj2 : j2 ≤ 9223372036854775807 := by have := HN2.out.2; omega
  have hj0 : ¬ j2 = 0 := fun h => H0.out (HN2.out.1.1 h)
  have hjb : ((j2 : Int) == 0) = false := by simp; omega
  have x0 := bP2.c0
  have x1 := bP2.c1
  clear E3 bP2 bQ2 bR2 hW3
  go_wp2_with fail
  clear x0 x1 y0 y1 yf lQ lP hjb hj0
  rw [fill2_eq]
  generalize fill2 w3 (w.heap.size + 1) (.bool m2) (.slice p2 j2 d2) = W4 at *
  replace E4 := E4.less (KA' := [(.agg #[.bool m2, .slice p2 j2 d2], m, y), (.agg #[.bool m1, .slice p1 j1 d1], n, x)]) (KI' := []) (KR' := []) (KS' := []) (by simp) (by simp) (by simp) (by simp)
  have HG0 : Hid (((Nat.gcd x.natAbs y.natAbs : Nat) : Int) ≠ 0) := hid (by have := H0.out; have : 0 < Nat.gcd x.natAbs y.natAbs := Nat.gcd_pos_of_pos_right _ (by omega); omega)
  have HDL := hid (doc_least (p := x) H0.out _ rfl)
  refine (re_rgcd E4 (List.Mem.tail _ (List.Mem.head _)) (List.Mem.head _) (by omega) (by omega)).mono ?_
  rintro e w5 ⟨ng, ag, kg, cg, rfl, E5⟩
  clear E4
  generalize ((Nat.gcd x.natAbs y.natAbs : Nat) : Int) = g at *
  have E6 := E5.alloc (.cells #[.bool ng, .slice ag kg cg] 27)
  have bG : Box (w5.alloc (.cells #[.bool ng, .slice ag kg cg] 27)) w5.heap.size (.bool ng) (.slice ag kg cg) := Box.new _ _ _ _ rfl
  have bP6 := bP4.keep E6.bl
  have bQ6 := bQ4.keep E6.bl
  have bR6 := bR4.keep E6.bl
  have hW6 := below_call hW4 E6.bl hW4.size
  have x0 := (bP4.keep E5.bl).c0
  have x1 := (bP4.keep E5.bl).c1
  have lP := (bP4.keep E5.bl).lt
  replace E6 := E6.rebase
  clear E5 bP4 bQ4 bR4 hW4
  go_wp2_with fail
  clear x0 x1 lP
  generalize w5.alloc (.cells #[.bool ng, .slice ag kg cg] 27) = W6 at *
  generalize w5.heap.size = gG at *
  refine (re_rdiv E6 (List.Mem.tail _ (List.Mem.tail _ (List.Mem.head _))) (List.Mem.head _) HG0.out (by omega) (by omega)).mono ?_
  rintro e w7 ⟨nx, ax, kx, cx, ny, ay, ky, cy, rfl, E7⟩
  clear E6
  have E8 := (E7.alloc (.cells #[.bool nx, .slice ax kx cx] 27)).alloc (.cells #[.bool ny, .slice ay ky cy] 27)
  have bX : Box ((w7.alloc (.cells #[.bool nx, .slice ax kx cx] 27)).alloc (.cells #[.bool ny, .slice ay ky cy] 27)) w7.heap.size (.bool nx) (.slice ax kx cx) := (Box.new _ _ _ _ rfl).alloc _
  have bQ8 := bQ6.keep E8.bl
  have bG8 := bG.keep E8.bl
  have bR8 := bR6.keep E8.bl
  have hW8 := below_call hW6 E8.bl hW6.size
  have y0 := (bQ6.keep E7.bl).c0
  have y1 := (bQ6.keep E7.bl).c1
  have g0 := (bG.keep E7.bl).c0
  have g1 := (bG.keep E7.bl).c1
  have lQ := (bQ6.keep E7.bl).lt
  have lG := (bG.keep E7.bl).lt
  have lX : w.heap.size + 1 + 1 < w7.heap.size := (bR6.keep E7.bl).lt
  have lP7 : w.heap.size < w7.heap.size := by omega
  replace E8 := E8.rebase
  clear E7 bP6 bQ6 bG bR6 hW6
  go_wp2_with fail
  clear y0 y1 g0 g1 lQ lG
  generalize (w7.alloc (.cells #[.bool nx, .slice ax kx cx] 27)).alloc (.cells #[.bool ny, .slice ay ky cy] 27) = W8 at *
  generalize w7.heap.size = gX at *
  refine (re_rdiv E8 (u := .agg #[.bool m2, .slice p2 j2 d2]) (v := .agg #[.bool ng, .slice ag kg cg]) (x := y) (y := g) (by repeat (first | exact List.Mem.head _ | refine List.Mem.tail _ ?_)) (by repeat (first | exact List.Mem.head _ | refine List.Mem.tail _ ?_)) HG0.out (by omega) (by omega)).mono ?_
  rintro e w9 ⟨nv, av, kv, cv, nz, az, kz, cz, rfl, E9⟩
  clear E8
  have E10 := (E9.alloc (.cells #[.bool nv, .slice av kv cv] 27)).alloc (.cells #[.bool nz, .slice az kz cz] 27)
  have bY : Box ((w9.alloc (.cells #[.bool nv, .slice av kv cv] 27)).alloc (.cells #[.bool nz, .slice az kz cz] 27)) w9.heap.size (.bool nv) (.slice av kv cv) := (Box.new _ _ _ _ rfl).alloc _
  have bX10 := bX.keep E10.bl
  have bR10 := bR8.keep E10.bl
  have hW10 := below_call hW8 E10.bl hW8.size
  have HNG := hid (is_neg (E9.i _ (List.Mem.head _)))
  have x0 := (bX.keep E9.bl).c0
  have x1 := (bX.keep E9.bl).c1
  have lX9 := (bX.keep E9.bl).lt
  have lR9 := (bR8.keep E9.bl).lt
  have l9a : w.heap.size + 1 < w9.heap.size := by omega
  have l9b : w.heap.size < w9.heap.size := by omega
  have hXR : w.heap.size + 1 + 1 < gX := lX
  obtain ⟨r0, r1, r2, r3⟩ := (bR8.keep E9.bl).c
  have rf := (bR8.keep E9.bl).f
  have HE11 : Hid (∀ p q z s, RE (((fill4 w9 (w.heap.size + 1 + 1) p q z s).alloc (.cells #[.bool nv, .slice av kv cv] 27)).alloc (.cells #[.bool nz, .slice az kz cz] 27)) (((fill4 w9 (w.heap.size + 1 + 1) p q z s).alloc (.cells #[.bool nv, .slice av kv cv] 27)).alloc (.cells #[.bool nz, .slice az kz cz] 27)) _ _ _ _) := hid (fun p q z s => (((E9.refill (bR8.keep E9.bl) p q z s).alloc _).alloc _).rebase)
  have HWF : Hid (∀ p q z s, Below w.heap.size w (((fill4 w9 (w.heap.size + 1 + 1) p q z s).alloc (.cells #[.bool nv, .slice av kv cv] 27)).alloc (.cells #[.bool nz, .slice az kz cz] 27))) := hid (fun p q z s => ((below_fill4 (below_call hW8 E9.bl hW8.size) (by omega) p q z s).alloc (by rw [size4]; omega) _).alloc (by rw [asize, size4]; omega) _)
  have HBF : Hid (∀ p q z s, Box4 (((fill4 w9 (w.heap.size + 1 + 1) p q z s).alloc (.cells #[.bool nv, .slice av kv cv] 27)).alloc (.cells #[.bool nz, .slice az kz cz] 27)) (w.heap.size + 1 + 1) p q z s) := hid (fun p q z s => (((bR8.keep E9.bl).filled p q z s).alloc _).alloc _)
  replace E10 := E10.rebase
  clear E9 bQ8 bG8 bR8 bX hW8
  cases nv
  · have HQ := hid (HDL.out.1 (HNG.out.2 rfl))
    clear HDL HNG
    have E11 := HE11.out (.bool nx) (.slice ax kx cx) (.bool false) (.slice av kv cv)
    have HI1 := hid (E11.i (.agg #[.bool nx, .slice ax kx cx], n, x.tdiv g) (by repeat (first | exact List.Mem.head _ | refine List.Mem.tail _ ?_)))
    have HI2 := hid (E11.i (.agg #[.bool false, .slice av kv cv], m, y.tdiv g) (by repeat (first | exact List.Mem.head _ | refine List.Mem.tail _ ?_)))
    have HW := hid (HWF.out (.bool nx) (.slice ax kx cx) (.bool false) (.slice av kv cv))
    obtain ⟨f0, f1, f2, f3⟩ := (HBF.out (.bool nx) (.slice ax kx cx) (.bool false) (.slice av kv cv)).c
    clear E10 E11 bX10 bR10 bY HE11 HWF HBF
    unfold fill4 at f0 f1 f2 f3
    go_wp2
    refine bodyPost_ret (v := .tuple #[.agg #[.bool nx, .slice ax kx cx, .bool false, .slice av kv cv], .int .i64 0]) ?_ rfl ⟨nx, ax, kx, cx, false, av, kv, cv, rfl, ⟨nx, ax, kx, cx, false, av, kv, cv, rfl, ?_, ?_⟩, ?_⟩
    · simp [results, Try.results20, go_sem, f0, f1, f2, f3]
    · rw [← HQ.out.1]
      exact HI1.out.mono (Nat.le_refl _) (by omega)
    · rw [← HQ.out.2]
      exact HI2.out.mono (Nat.le_refl _) (by omega)
    · exact HW.out
  · have HQ := hid (HDL.out.2 (HNG.out.1 rfl))
    clear HDL HNG r0 r1 r2 r3 rf HE11 HWF HBF
    go_wp2_with fail
    clear x0 x1
    generalize (w9.alloc (.cells #[.bool true, .slice av kv cv] 27)).alloc (.cells #[.bool nz, .slice az kz cz] 27) = W10 at *
    generalize w9.heap.size = gY at *
    refine (re_rneg E10 (u := .agg #[.bool nx, .slice ax kx cx]) (x := x.tdiv g) (by repeat (first | exact List.Mem.head _ | refine List.Mem.tail _ ?_)) (by omega)).mono ?_
    rintro e w11 ⟨n3, a3, k3, c3, rfl, E11⟩
    clear E10
    have bX11 := bX10.keep E11.bl
    have bY11 := bY.keep E11.bl
    have bR11 := bR10.keep E11.bl
    have hW11 := below_call hW10 E11.bl hW10.size
    have E12 := E11.refill2 bX11 (.bool n3) (.slice a3 k3 c3)
    have bX12 := bX11.filled (.bool n3) (.slice a3 k3 c3)
    have bY12 := bY11.beside2 (show gY ≠ gX by omega) (.bool n3) (.slice a3 k3 c3)
    have bR12 := bR11.beside2 (show w.heap.size + 1 + 1 ≠ gX by omega) (.bool n3) (.slice a3 k3 c3)
    have hW12 := below_fill2 hW11 (show w.heap.size ≤ gX by omega) (.bool n3) (.slice a3 k3 c3)
    have x0 := bX11.c0
    have x1 := bX11.c1
    have xf := bX11.f
    have y0 := bY11.c0
    have y1 := bY11.c1
    have lx := bX11.lt
    have ly := bY11.lt
    clear E11 bX11 bY11 bR11 bX10 bY bR10 hW11 hW10
    go_wp2_with fail
    clear x0 x1 xf y0 y1 lx ly
    rw [fill2_eq]
    generalize fill2 w11 gX (.bool n3) (.slice a3 k3 c3) = W12 at *
    refine (re_rneg E12 (u := .agg #[.bool true, .slice av kv cv]) (x := y.tdiv g) (by repeat (first | exact List.Mem.head _ | refine List.Mem.tail _ ?_)) (by omega)).mono ?_
    rintro e w13 ⟨n4, a4, k4, c4, rfl, E13⟩
    clear E12
    have bX13 := bX12.keep E13.bl
    have bY13 := bY12.keep E13.bl
    have bR13 := bR12.keep E13.bl
    have hW13 := below_call hW12 E13.bl hW12.size
    have E14 := E13.refill2 bY13 (.bool n4) (.slice a4 k4 c4)
    have bR14 := bR13.beside2 (show w.heap.size + 1 + 1 ≠ gY by omega) (.bool n4) (.slice a4 k4 c4)
    have hW14 := below_fill2 hW13 (show w.heap.size ≤ gY by omega) (.bool n4) (.slice a4 k4 c4)
    have E15 := E14.refill bR14 (.bool n3) (.slice a3 k3 c3) (.bool n4) (.slice a4 k4 c4)
    have HI1 := hid (E15.i (.agg #[.bool n3, .slice a3 k3 c3], n, -(x.tdiv g)) (by repeat (first | exact List.Mem.head _ | refine List.Mem.tail _ ?_)))
    have HI2 := hid (E15.i (.agg #[.bool n4, .slice a4 k4 c4], m, -(y.tdiv g)) (List.Mem.head _))
    have HW := hid (below_fill4 hW14 (show w.heap.size ≤ w.heap.size + 1 + 1 by omega) (.bool n3) (.slice a3 k3 c3) (.bool n4) (.slice a4 k4 c4))
    have x0 := bX13.c0
    have x1 := bX13.c1
    have y0 := bY13.c0
    have y1 := bY13.c1
    have yf := bY13.f
    have lx := bX13.lt
    have ly := bY13.lt
    have lr := bR13.lt
    obtain ⟨r0, r1, r2, r3⟩ := bR13.c
    have rf := bR13.f
    have ne1 : w.heap.size + 1 + 1 ≠ gY := by omega
    have ne2 : gX ≠ gY := by omega
    have ne3 : w.heap.size + 1 + 1 ≠ gX := by omega
    have ne4 := ne1.symm
    have ne5 := ne2.symm
    have ne6 := ne3.symm
    clear E13 E14 E15 bX13 bY13 bR13 bR14 bX12 bY12 bR12
    go_wp2
    refine bodyPost_ret (v := .tuple #[.agg #[.bool n3, .slice a3 k3 c3, .bool n4, .slice a4 k4 c4], .int .i64 0]) ?_ rfl ⟨n3, a3, k3, c3, n4, a4, k4, c4, rfl, ⟨n3, a3, k3, c3, n4, a4, k4, c4, rfl, ?_, ?_⟩, HW.out⟩
    · simp [results, Try.results20, go_sem, r0, r1, r2, r3, ne1]
    · rw [← HQ.out.1]
      exact HI1.out.mono (Nat.le_refl _) (by omega)
    · rw [← HQ.out.2]
      exact HI2.out.mono (Nat.le_refl _) (by omega)

end Go.Proofs.Ytalblhcfkfockaa
