/-
  Walks: the document's own Quo.
-/
import Derived.Test.YtiicjfacekldnaaD1
namespace Go.Proofs.Ytiicjfacekldnaa
open Go.RowKit Lm
set_option linter.unusedSimpArgs false
set_option linter.unusedVariables false
set_option maxRecDepth 100000

/-- A number's box: no limbs lie in it. -/
theorem SlAt.offN {W W' : World} {ao : Option Addr} {cap g k d : Nat} {l : List Nat} {a : Option Addr} {b : Bool} (h : SlAt W ao cap l) (hg : Box W g (.bool b) (.slice a k d)) (hW : W.grownBy W' (some g)) : SlAt W' ao cap l := by
  by_cases h0 : l.length = 0
  · obtain ⟨h1, h2, h3, h4⟩ := h
    refine ⟨h1, h2, h3, ?_⟩
    rcases h4 with h4 | ⟨b', off, e, hlt, hc⟩
    · exact .inl h4
    · exact .inl ⟨h0, fun h => by rw [e] at h; simp at h⟩
  · refine slAt_grow h hW ?_
    rintro ad rfl hb
    obtain ⟨-, -, -, h4⟩ := h
    rcases h4 with h4 | ⟨b', off, e, hlt, hc⟩
    · exact h0 h4.1
    · simp only [Option.some.injEq] at e
      subst e
      simp only at hb
      subst hb
      have h5 := hc 0 (by omega)
      rw [cell_of_row W b' (off + 0) #[.bool b, .slice a k d] 24 (0, 0) hg] at h5
      rcases (show off = 0 ∨ off = 1 ∨ 2 ≤ off by omega) with rfl | rfl | h6
      · simp at h5
      · simp at h5
      · rw [Array.getElem?_eq_none (by simp; omega)] at h5
        simp at h5
def fill2 (W : World) (g : Nat) (p q : Value) : World := (W.setCell ⟨g, 0, none⟩ p).setCell ⟨g, 1, none⟩ q
theorem grow2 (W : World) (g : Nat) (p q : Value) : W.grownBy (fill2 W g p q) (some g) := grow_set (grow_set (grow_refl _ _) _ _) _ _
theorem fill2_eq (W : World) (g : Nat) (p q : Value) : (W.setCell ⟨g, 0, none⟩ p).setCell ⟨g, 1, none⟩ q = fill2 W g p q := rfl
theorem Box.filled {W : World} {g : Nat} {a b : Value} (h : Box W g a b) (p q : Value) : Box (fill2 W g p q) g p q := (h.set0 p).set1 q
theorem Box.beside2 {W : World} {g h : Nat} {a b : Value} (hg : Box W g a b) (hne : g ≠ h) (p q : Value) : Box (fill2 W h p q) g a b := (hg.other hne _).other hne _
theorem Box4.beside2 {W : World} {g h : Nat} {a b c d : Value} (hg : Box4 W g a b c d) (hne : g ≠ h) (p q : Value) : Box4 (fill2 W h p q) g a b c d := (hg.other hne _).other hne _
theorem below_fill2 {B : Nat} {w W : World} {g : Nat} (h : Below B w W) (hg : B ≤ g) (p q : Value) : Below B w (fill2 W g p q) := (h.setCell hg _).setCell hg _

section
variable {U W W' : World} {KA KI : List (Value × Nat × Int)} {KR KS : List (Value × Nat × Rat)} {u v : Value} {n m : Nat} {x y : Int} {r t : Rat}
theorem RE.refill2 {g k d : Nat} {a : Option Addr} {b : Bool} (E : RE U W KA KI KR KS) (hg : Box W g (.bool b) (.slice a k d)) (p q : Value) : RE (fill2 W g p q) (fill2 W g p q) KA KI KR KS := by
  have hW := grow2 W g p q
  refine ⟨fun o ho => ?_, fun o ho => ?_, fun o ho => ?_, fun o ho => ?_, Below.refl _ _⟩
  · obtain ⟨neg, sv, l, e, ⟨ao, cap, e2, hs⟩, hr⟩ := E.a o ho
    exact ⟨neg, sv, l, e, ⟨ao, cap, e2, hs.offN hg hW⟩, hr⟩
  · obtain ⟨neg, ao, cap, l, e, hs, hr⟩ := E.i o ho
    exact ⟨neg, ao, cap, l, e, hs.offN hg hW, hr⟩
  · obtain ⟨n1, s1, l1, n2, s2, l2, e, ⟨p1, q1, e1, h1⟩, ⟨p2, q2, e2, h2⟩, hr⟩ := E.r o ho
    exact ⟨n1, s1, l1, n2, s2, l2, e, ⟨p1, q1, e1, h1.offN hg hW⟩, ⟨p2, q2, e2, h2.offN hg hW⟩, hr⟩
  · obtain ⟨n1, p1, q1, c1, n2, p2, q2, c2, e, ⟨m1, b1, d1, l1, e1, s1, z1⟩, ⟨m2, b2, d2, l2, e2, s2, z2⟩⟩ := E.s o ho
    exact ⟨n1, p1, q1, c1, n2, p2, q2, c2, e, ⟨m1, b1, d1, l1, e1, s1.offN hg hW, z1⟩, ⟨m2, b2, d2, l2, e2, s2.offN hg hW, z2⟩⟩
/-- What the document's norm tells. -/
theorem re_norm (E : RE U W KA KI KR KS) (hu : (u, n, x) ∈ KA) : Calls Try.prog 68 #[u] W fun e w' => ∃ neg ao k cap, e = .returned (.agg #[.bool neg, .slice ao k cap]) ∧ Hid ((k = 0 ↔ x = 0) ∧ k ≤ n) ∧ RE U w' ((.agg #[.bool neg, .slice ao k cap], n, x) :: KA) KI KR KS := by
  refine (rnorm_h W W u n x (E.a _ hu) (Below.refl _ _)).mono ?_
  rintro e w' ⟨neg, ao, cap, k, l, rfl, HK, HC, hb⟩
  have hk := HK.out
  subst hk
  refine ⟨neg, ao, l.length, cap, rfl, hid ⟨⟨fun h => ?_, fun h => ?_⟩, HC.2.1⟩, (E.step hb).know ⟨neg, _, l, rfl, ⟨ao, cap, rfl, HC.1.below hb⟩, HC.2.1, by rw [mean_may HC.2.2.1]; exact HC.2.2.2⟩⟩
  · rw [HC.2.2.2, List.eq_nil_of_length_eq_zero h]
    simp [val, sgn]
  · have h2 := sgn_abs neg (val l)
    rw [← HC.2.2.2, h] at h2
    rw [val_eq_zero (may_canon HC.2.2.1) (by simpa using h2.symm)]
    rfl
theorem re_rgcd (E : RE U W KA KI KR KS) (hu : (u, n, x) ∈ KA) (hv : (v, m, y) ∈ KA) (hn : n ≤ 200000) (hm : m ≤ 200000) : Calls Try.prog 25 #[u, v] W (SaysN U KA KI KR KS (n + m) ((Nat.gcd x.natAbs y.natAbs : Nat) : Int)) :=
  (rgcd_num W u v n m x y (E.a _ hu) (E.a _ hv) hn hm).mono fun _ _ h => saysN_of E h
theorem re_rdiv (E : RE U W KA KI KR KS) (hu : (u, n, x) ∈ KA) (hv : (v, m, y) ∈ KA) (hy : y ≠ 0) (hn : n ≤ 200000) (hm : m ≤ 200000) : Calls Try.prog 21 #[u, v] W fun e w' => ∃ nq aq kq cq nr ar kr cr, e = .returned (.tuple #[.agg #[.bool nq, .slice aq kq cq], .agg #[.bool nr, .slice ar kr cr], .int .i64 0]) ∧ RE U w' ((.agg #[.bool nq, .slice aq kq cq], n, x.tdiv y) :: (.agg #[.bool nr, .slice ar kr cr], n + m, x.tmod y) :: KA) ((.agg #[.bool nq, .slice aq kq cq], n, x.tdiv y) :: (.agg #[.bool nr, .slice ar kr cr], n + m, x.tmod y) :: KI) KR KS := by
  refine (rdiv_num W u v n m x y (E.a _ hu) (E.a _ hv) hy hn hm).mono ?_
  rintro e w' ⟨nq, aq, kq, cq, nr, ar, kr, cr, rfl, hq, hr, hb⟩
  exact ⟨nq, aq, kq, cq, nr, ar, kr, cr, rfl, ((E.step hb).knowI hr).knowI hq⟩
theorem re_rneg (E : RE U W KA KI KR KS) (hu : (u, n, x) ∈ KA) (hn : n ≤ 500000) : Calls Try.prog 85 #[u] W (SaysN U KA KI KR KS n (-x)) :=
  (rneg_num W u n x (E.a _ hu) (by omega)).mono fun _ _ h => saysN_of E h
end

theorem is_neg {w : World} {lo n : Nat} {ng : Bool} {ag : Option Addr} {kg cg : Nat} {z : Int} (h : Is w lo (.agg #[.bool ng, .slice ag kg cg]) n z) : (ng = true → z < 0) ∧ (ng = false → 0 ≤ z) := by
  obtain ⟨neg, ao, cap, l, e, hs, _, _, hm, hz⟩ := h
  simp only [Value.agg.injEq, Array.mk.injEq, List.cons.injEq, Value.bool.injEq, Value.slice.injEq, and_true] at e
  obtain ⟨rfl, rfl, rfl, rfl⟩ := e
  refine ⟨fun h => ?_, fun h => ?_⟩
  · subst h
    have hne : val l ≠ 0 := by
      intro h0
      have := val_eq_zero (may_canon hm) h0
      subst this
      simp [mayB] at hm
    rw [hz]
    simp [sgn]
    omega
  · subst h
    rw [hz]
    simp [sgn]
/-- The least form, as the document reckons it. -/
theorem doc_least {p q : Int} (hq : q ≠ 0) (g : Int) (hg : g = ((Nat.gcd p.natAbs q.natAbs : Nat) : Int)) : (0 ≤ q.tdiv g → p.tdiv g = (Rat.divInt p q).num ∧ q.tdiv g = ((Rat.divInt p q).den : Int)) ∧ (q.tdiv g < 0 → -(p.tdiv g) = (Rat.divInt p q).num ∧ -(q.tdiv g) = ((Rat.divInt p q).den : Int)) := by
  have hgp : 0 < Nat.gcd p.natAbs q.natAbs := Nat.gcd_pos_of_pos_right _ (by omega)
  have hg0 : 0 < g := by omega
  rw [least_num p q hq, least_den p q hq]
  have hdv : g ∣ q := by
    rw [hg, ← Int.natAbs_dvd_natAbs]
    exact Nat.gcd_dvd_right _ _
  obtain ⟨c, hc⟩ := hdv
  have hqc : q.tdiv g = c := by rw [hc]; exact Int.mul_tdiv_cancel_left _ (by omega)
  by_cases hn : q < 0
  · have hd : dv p q = -g := by unfold dv; rw [if_pos hn, hg]
    rw [hd, Int.tdiv_neg, Int.tdiv_neg]
    refine ⟨fun h => ?_, fun h => ⟨rfl, rfl⟩⟩
    rw [hqc] at h
    have := Int.mul_nonneg (Int.le_of_lt hg0) h
    omega
  · have hd : dv p q = g := by unfold dv; rw [if_neg hn, hg]
    rw [hd]
    refine ⟨fun h => ⟨rfl, rfl⟩, fun h => ?_⟩
    rw [hqc] at h
    have := Int.mul_neg_of_pos_of_neg hg0 h
    omega

end Go.Proofs.Ytiicjfacekldnaa
