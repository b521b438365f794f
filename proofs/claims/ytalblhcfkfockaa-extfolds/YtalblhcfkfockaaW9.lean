/-
  Walks: Div, over what is known of divLimbs.
-/
import Derived.Test.YtalblhcfkfockaaW8
namespace Go.Proofs.Ytalblhcfkfockaa
open Go.RowKit Lm
set_option linter.unusedSimpArgs false
set_option linter.unusedVariables false
set_option maxRecDepth 100000

/-- What Div tells. -/
def DivTold (w : World) (n m : Nat) (x y : Int) (e : Ending) (w' : World) : Prop :=
  ∃ nq aq kq cq nr ar kr cr, e = .returned (.tuple #[.agg #[.bool nq, .slice aq kq cq], .agg #[.bool nr, .slice ar kr cr], .int .i64 0]) ∧
    Is w' w.heap.size (.agg #[.bool nq, .slice aq kq cq]) n (x.tdiv y) ∧ Is w' w.heap.size (.agg #[.bool nr, .slice ar kr cr]) (n + m) (x.tmod y) ∧ Below w.heap.size w w'

/-- The boxes of Div, as they stand while the answers are made. -/
def DivS (w : World) (neg1 neg2 : Bool) (w' : World) : Prop :=
  w'.cell? ⟨w.heap.size, 0, none⟩ = some (.bool neg1) ∧ w'.cell? ⟨w.heap.size + 1, 0, none⟩ = some (.bool neg2)

theorem tdiv_sgn (na nb : Bool) (q r a b : Nat) (h : a = q * b + r) (hr : r < b) : (sgn na a).tdiv (sgn nb b) = sgn (na != nb) q ∧ (sgn na a).tmod (sgn nb b) = sgn na r := by
  have h1 : a / b = q := by
    rw [h, Nat.mul_comm, Nat.mul_add_div (by omega), Nat.div_eq_of_lt hr, Nat.add_zero]
  have h2 : a % b = r := by
    rw [h, Nat.mul_comm, Nat.mul_add_mod, Nat.mod_eq_of_lt hr]
  have e1 : ((a : Int)).tdiv (b : Int) = (q : Int) := by rw [← Int.ofNat_tdiv, h1]
  have e2 : ((a : Int)).tmod (b : Int) = (r : Int) := by rw [← Int.ofNat_tmod, h2]
  cases na <;> cases nb <;> simp [sgn, Int.neg_tdiv, Int.tdiv_neg, Int.neg_tmod, Int.tmod_neg, e1, e2]

theorem cell_far {w : World} {a b : Addr} {v u : Value} (h : a.block ≠ b.block) (hc : w.cell? b = some u) : (w.setCell a v).cell? b = some u :=
  (World.cell?_of_block (w := w) (Below.heap_setCell w a v b.block (Ne.symm h))).trans hc
theorem cell_drew {w : World} {b : Addr} {u : Value} (hc : w.cell? b = some u) : w.drew.cell? b = some u := hc
theorem from_mono {lo lo' : Nat} {ao : Option Addr} (h : From lo ao) (hl : lo' ≤ lo) : From lo' ao := fun ad e => Nat.le_trans hl (h ad e)
theorem made_k (w : World) (lo : Nat) (neg : Bool) (ao : Option Addr) (cap k : Nat) (l : List Nat) (hk : k = l.length) (h : SlAt w ao cap l) (hf : From lo ao) :
    Calls Try.prog 65 #[.bool neg, .slice ao k cap] w fun e w' => ∃ neg' ao' n' cap', e = .returned (.agg #[.bool neg', .slice ao' n' cap']) ∧ Hid (Is w' lo (.agg #[.bool neg', .slice ao' n' cap']) l.length (sgn neg (val l))) ∧ Below w.heap.size w w' := by
  subst hk
  exact made_any w lo neg ao cap l h hf

set_option maxHeartbeats 3200000 in
theorem div_num (N M : Nat) (hsaid : DivSaid N M) (w : World) (u v : Value) (n m : Nat) (x y : Int) (hx : Arg w u n x) (hy : Arg w v m y) (hy0 : y ≠ 0) (hn : n ≤ N) (hm : y.natAbs < pw M) :
    Calls Try.prog 103 #[u, v] w (DivTold w n m x y) := by
  have HX := hid hx
  have HY := hid hy
  have HY0 := hid hy0
  have HM := hid hm
  have HSD := hid hsaid
  clear hy0 hm hsaid
  obtain ⟨n1, s1, l1, rfl, -⟩ := hx
  obtain ⟨n2, s2, l2, rfl, -⟩ := hy
  go_enter Try.func103, Try.ntmps103
  go_wp2
  go_cut [] (fun wc => ∃ neg1 ao1 cap1 l1 neg2 ao2 cap2 l2, Boxed2 w (w.heap.size + 4) n m x y wc neg1 ao1 cap1 l1 neg2 ao2 cap2 l2)
  case first =>
    go_region_with (first | (go_at_call_of 63 (Value.agg #[Value.bool n1, s1]); refine (counted_h w _ _ n x HX.out ?_).mono ?_; (exact (by repeat (first | exact Below.refl _ _ | refine Below.alloc ?_ ?_ _ | refine Below.setCell ?_ ?_ _ | refine Below.drew ?_ | refine below_drewN ?_ _ | (· simp) | omega | (· simp; omega) | exact Below.size (by assumption) | assumption | refine below_call ?_ (by assumption) ?_))); rintro e w1 ⟨neg1, ao1, cap1, k1, l1, rfl, HK1, HC1, hb1⟩; obtain ⟨hc1, hf1⟩ := bcell hb1; simp only [asize, dsize] at hc1 hf1) | (go_at_call_of 63 (Value.agg #[Value.bool n2, s2]); refine (counted_h w _ _ m y HY.out ?_).mono ?_; (exact (by repeat (first | exact Below.refl _ _ | refine Below.alloc ?_ ?_ _ | refine Below.setCell ?_ ?_ _ | refine Below.drew ?_ | refine below_drewN ?_ _ | (· simp) | omega | (· simp; omega) | exact Below.size (by assumption) | assumption | refine below_call ?_ (by assumption) ?_))); rintro e w2 ⟨neg2, ao2, cap2, k2, l2, rfl, HK2, HC2, hb2⟩; have hW2 := below_call hb1 hb2 hb1.size; obtain ⟨hc2, hf2⟩ := bcell hW2; simp only [asize, dsize] at hc2 hf2))
    all_goals (go_wp2_with fail; go_meet; exact ⟨neg1, ao1, cap1, _, neg2, ao2, cap2, _, boxed2_mk HK1 HC1 HK2 HC2 (laid4 w n1 s1 n2 s2).1 (laid4 w n1 s1 n2 s2).2.1 (laid4 w n1 s1 n2 s2).2.2.1 (laid4 w n1 s1 n2 s2).2.2.2.1 (laid4 w n1 s1 n2 s2).2.2.2.2 (below_undrew hW2)⟩)
  case rest =>
    obtain ⟨neg1, ao1, cap1, l1, neg2, ao2, cap2, l2, HB⟩ := hcut
    have HB' := hid HB
    have hk2 : ((l2.length : Int) == 0) = false := by
      simp
      intro e
      have h1 := HB.c2.2.2.2
      rw [e] at h1
      apply HY0.out
      rw [h1]
      cases neg2 <;> simp [sgn, val]
    have hk2c : l2.length ≤ 9223372036854775807 := by have := HB.c2.1.2.2.1; have h3 := HB.c2.1.2.1; unfold maxLen at this; omega
    have hM2 : l2.length ≤ M := by
      rcases Nat.lt_or_ge M l2.length with h | h
      · have h1 := HM.out
        rw [HB.c2.2.2.2, sgn_abs] at h1
        have h2 := canon_pos (may_canon HB.c2.2.2.1) (by intro e; subst e; simp at h)
        have h3 := pw_mono (show M ≤ l2.length - 1 by omega)
        omega
      · exact h
    have a1 := HB.b1.c1
    have b1 := HB.b2.c1
    have a0 := HB.b1.c0
    have b0 := HB.b2.c0
    clear HB
    go_wp2_with fail
    refine (HSD.out _ ao1 cap1 l1 ao2 cap2 l2 (HB'.out.c1.1.below HB'.out.bl) (HB'.out.c2.1.below HB'.out.bl) (may_canon HB'.out.c1.2.2.1) (may_canon HB'.out.c2.2.2.1) (by intro e; simp [e] at hk2) (Nat.le_trans HB'.out.c1.2.1 hn) hM2).mono ?_
    rintro e w3 ⟨qa, qn, qc, ra, rn, rc, q, r, rfl, hqn, hrn, hq, hfq, hr, hfr, hv, hlt, hql, hrl, hb3⟩
    have HQ := hid hqn
    have HR := hid hrn
    have HV := hid hv
    have hsz := HB'.out.sz
    have a0' : w3.cell? ⟨w.heap.size, 0, none⟩ = some (.bool neg1) := (HB'.out.b1.keep hb3).c0
    have b0' : w3.cell? ⟨w.heap.size + 1, 0, none⟩ = some (.bool neg2) := (HB'.out.b2.keep hb3).c0
    have r2 := (HB'.out.rs (w.heap.size + 1 + 1) (by omega) (by omega)).keep hb3
    have r3 := (HB'.out.rs (w.heap.size + 1 + 1 + 1) (by omega) (by omega)).keep hb3
    have HR2 := hid r2
    have HR3 := hid r3
    have hsz3 := hb3.size
    clear hqn hrn hv a0 a1 b0 b1 r2 r3
    go_wp2_with fail
    have hlo : w.heap.size + 4 ≤ w3.heap.size := by omega
    have hbw3 : Below w.heap.size w w3 := HB'.out.bl.trans (hb3.mono HB'.out.bl.size)
    have HFQ := hid (from_mono hfq hsz)
    have HFR := hid (from_mono hfr hsz)
    have Hq := hid hq
    have Hr := hid hr
    clear hfq hfr hq hr hb3 hsz hsz3
    go_region_held3 (fun w' => (w'.cell? ⟨w.heap.size, 0, none⟩ = some (.bool neg1) ∧ w'.cell? ⟨w.heap.size + 1, 0, none⟩ = some (.bool neg2))) (refine ⟨?_, ?_⟩ <;> repeat (first | with_reducible exact a5 | with_reducible exact b5 | with_reducible exact a4 | with_reducible exact b4 | with_reducible refine cell_far ?_ ?_ | with_reducible refine cell_drew ?_ | with_reducible exact a0' | with_reducible exact b0' | (· simp) | (· simp; omega))) (first
      | (go_at_call_of 65 (Value.slice qa qn qc); go_must (refine (made_k _ (w.heap.size + 4) _ qa qc qn q HQ.out (by exact Hq.out.drew) HFQ.out).mono ?_); rintro e w4 ⟨nq, aq, kq, cq, rfl, HI4, hb4⟩; have a4 : w4.cell? ⟨w.heap.size, 0, none⟩ = some (.bool neg1) := (hb4.cell (p := ⟨w.heap.size, 0, none⟩) (by show w.heap.size < w3.heap.size; omega)).trans a0'; have b4 : w4.cell? ⟨w.heap.size + 1, 0, none⟩ = some (.bool neg2) := (hb4.cell (p := ⟨w.heap.size + 1, 0, none⟩) (by show w.heap.size + 1 < w3.heap.size; omega)).trans b0')
      | (go_at_call_of 65 (Value.slice ra rn rc); go_must (refine (made_k _ (w.heap.size + 4) _ ra rc rn r HR.out (by exact Hr.out.drew.below hb4) HFR.out).mono ?_); rintro e w5 ⟨nr, ar, kr, cr, rfl, HI5, hb5⟩; have HQI := hid (HI4.out.below hb5); have hs4 := hb4.size; simp only [dsize] at hs4; have a5 : w5.cell? ⟨w.heap.size, 0, none⟩ = some (.bool neg1) := (hb5.cell (p := ⟨w.heap.size, 0, none⟩) (by show w.heap.size < w4.heap.size; omega)).trans a4; have b5 : w5.cell? ⟨w.heap.size + 1, 0, none⟩ = some (.bool neg2) := (hb5.cell (p := ⟨w.heap.size + 1, 0, none⟩) (by show w.heap.size + 1 < w4.heap.size; omega)).trans b4; have r2 := (HR2.out.drew.keep hb4).keep hb5; have r3 := (HR3.out.drew.keep hb4).keep hb5; have r20 := r2.c0; have r21 := r2.c1; have r2f := r2.f; have r30 := r3.c0; have r31 := r3.c1; have r3f := r3.f; clear r2 r3))
    have HD := hid (tdiv_sgn neg1 neg2 (val q) (val r) (val l1) (val l2) HV.out hlt)
    have HBL : Hid (Below w.heap.size w w5) := hid (below_call (below_call (show Below w.heap.size w w3.drew from hbw3.drew) hb4 (by rw [dsize]; omega)) hb5 (by omega))
    have hs5 := hb5.size
    clear hb4 hb5 a4 b4 a5 b5 a0' b0' hlt
    go_wp2
    refine bodyPost_ret (v := .tuple #[.agg #[.bool nq, .slice aq kq cq], .agg #[.bool nr, .slice ar kr cr], .int .i64 0]) ?_ rfl ?_
    · simp [results, Try.results103, go_sem, r20, r21, r30, r31]
    · have hx1 := HB'.out.c1.2.2.2
      have hy1 := HB'.out.c2.2.2.2
      have hl1 := HB'.out.c1.2.1
      have hl2 := HB'.out.c2.2.1
      have ex : x.tdiv y = sgn (!neg1 == neg2) (val q) := by rw [hx1, hy1, HD.out.1]; cases neg1 <;> cases neg2 <;> rfl
      have ey : x.tmod y = sgn neg1 (val r) := by rw [hx1, hy1, HD.out.2]
      refine ⟨nq, aq, kq, cq, nr, ar, kr, cr, rfl, ?_, ?_, ?_⟩
      · rw [ex]
        exact ((((HQI.out.setCell (by simp) _).setCell (by simp) _).setCell (by simp) _).setCell (by simp) _).mono (by omega) (by omega)
      · rw [ey]
        exact ((((HI5.out.setCell (by simp) _).setCell (by simp) _).setCell (by simp) _).setCell (by simp) _).mono (by omega) (by omega)
      · exact (((HBL.out.setCell (by simp) _).setCell (by simp) _).setCell (by simp) _).setCell (by simp) _

end Go.Proofs.Ytalblhcfkfockaa
