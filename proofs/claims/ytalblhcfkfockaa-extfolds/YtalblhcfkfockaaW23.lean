/-
  Walks: the guess of a limb of a quotient.
-/
import Derived.Test.YtalblhcfkfockaaW22
namespace Go.Proofs.Ytalblhcfkfockaa
open Go.RowKit Lm
set_option linter.unusedSimpArgs false
set_option linter.unusedVariables false
set_option maxRecDepth 100000

/-- What guess tells: the limb, or one more. -/
def GuessPost (w : World) (UU VV : Nat) (e : Ending) (w' : World) : Prop :=
  ∃ q : Nat, e = .returned (.int .u32 (q : Int)) ∧ q < 4294967296 ∧ UU < (q + 1) * VV ∧ q * VV ≤ UU + VV ∧ Below w.heap.size w w'

/-- What stands at the head of a round of guess. -/
def GRel (vh top UU VV : Nat) (qv rv : Value) : Prop := ∃ q r : Nat, qv = .int .u64 (q : Int) ∧ rv = .int .u64 (r : Int) ∧ q ≤ 4294967297 ∧ r < 4294967296 ∧ Hid (q * vh + r = top) ∧ Hid (UU < (q + 1) * VV)

set_option maxHeartbeats 3200000 in
theorem guess_any (w : World) (ao : Option Addr) (ca ku : Nat) (U' : List Nat) (bo : Option Addr) (cb kv : Nat) (V : List Nat) (n : Nat) (hu : SlAt w ao ca U') (hv : SlAt w bo cb V) (hku : ku = U'.length) (hkv : kv = V.length) (hU : U'.length = n + 1) (hV : V.length = n) (hn : 2 ≤ n) (ht : 4294967296 ≤ 2 * V.getD (n - 1) 0) (hlt : val U' < val V * 4294967296) :
    Calls Try.prog 114 #[.slice ao ku ca, .slice bo kv cb] w (GuessPost w (val U') (val V)) := by
  have hT := tops_of hu.1 hv.1 hU hV hn ht hlt
  have hca := hu.2.2.1
  have hcb := hv.2.2.1
  unfold maxLen at hca hcb
  have hla := hu.2.1
  have hlb := hv.2.1
  have hu1 := ok_getD hu.1 (n - 1)
  have hu2 := ok_getD hu.1 (n - 2)
  have hu0 := ok_getD hu.1 n
  have hvn := ok_getD hv.1 (n - 2)
  have hvh := ok_getD hv.1 (n - 1)
  rcases hu.2.2.2 with ⟨_, _⟩ | ⟨b1, o1, rfl, hl1, hc1⟩
  · omega
  rcases hv.2.2.2 with ⟨_, _⟩ | ⟨b2, o2, rfl, hl2, hc2⟩
  · omega
  have x0 := hc1 n (by omega)
  have x1 := hc1 (n - 1) (by omega)
  have x2 := hc1 (n - 2) (by omega)
  have y1 := hc2 (n - 1) (by omega)
  have y2 := hc2 (n - 2) (by omega)
  rw [hku, hkv, hU, hV]
  rw [hU] at hla
  rw [hV] at hlb
  obtain ⟨u0, e0⟩ : ∃ u, u = U'.getD n 0 := ⟨_, rfl⟩
  obtain ⟨u1, e1⟩ : ∃ u, u = U'.getD (n - 1) 0 := ⟨_, rfl⟩
  obtain ⟨u2, e2⟩ : ∃ u, u = U'.getD (n - 2) 0 := ⟨_, rfl⟩
  obtain ⟨vh, e3⟩ : ∃ u, u = V.getD (n - 1) 0 := ⟨_, rfl⟩
  obtain ⟨vn, e4⟩ : ∃ u, u = V.getD (n - 2) 0 := ⟨_, rfl⟩
  rw [← e0] at x0 hT hu0
  rw [← e1] at x1 hT hu1
  rw [← e2] at x2 hT hu2
  rw [← e3] at y1 hT hvh ht
  rw [← e4] at y2 hT hvn
  have HT := hid hT
  have hq0 := hT.q_le hu1
  have hu0v := hT.top_lt
  clear e0 e1 e2 e3 e4 hc1 hc2 hT hlt hku hkv hU hV
  obtain ⟨top, hte⟩ : ∃ t, t = u1 + 4294967296 * u0 := ⟨_, rfl⟩
  rw [← hte] at hq0
  have htb : top < 18446744073709551616 := by omega
  have HTE := hid hte
  have HOR : Hid (bits BinOp.or IntKind.u64 ((u0 : Int) * 4294967296) (u1 : Int) = (top : Int)) := hid (by
    rw [show (u0 : Int) * 4294967296 = ((u0 * 4294967296 : Nat) : Int) by omega, u64_or_nat _ _ (by omega) (by omega), nat_join 32 _ _ (by omega) (by omega), hte]
    omega)
  clear hte
  go_enter Try.func114, Try.ntmps114
  go_wp2
  go_quiet (fail)
  go_wp2
  go_quiet (fail)
  go_wp2
  rw [HOR.out]
  go_quiet (fail)
  go_wp2
  go_loop [9, 10] (fun qv rv => GRel vh top (val U') (val V) qv rv) (fun qv rv => (intOf qv).toNat)
  case atStart =>
    refine ⟨top / vh, top % vh, ?_, ?_, hq0, Nat.lt_trans (Nat.mod_lt _ (by omega)) hvh, ?_, ?_⟩
    · have e : (top : Int) / (vh : Int) = ((top / vh : Nat) : Int) := by rw [Int.natCast_ediv]
      rw [e, IntKind.wrap_u64]
      generalize top / vh = q at *
      congr 1
      omega
    · rw [Int.natCast_emod]
    · show top / vh * vh + top % vh = top
      rw [Nat.mul_comm]; exact Nat.div_add_mod top vh
    · have := HT.out.first
      rw [← HTE.out] at this
      exact this
  case round =>
    obtain ⟨q, r, rfl, rfl, hqb, hrb, HQ, HU⟩ := hrel
    obtain ⟨m, hme⟩ : ∃ m, m = q * vn := ⟨_, rfl⟩
    have hmb : m ≤ 18446744073709551615 := by
      rw [hme]
      have := Nat.mul_le_mul hqb (show vn ≤ 4294967295 by omega)
      omega
    have HM := hid hme
    have hmi : (q : Int) * (vn : Int) = (m : Int) := by rw [hme]; simp
    obtain ⟨s, hse⟩ : ∃ s, s = r * 4294967296 + u2 := ⟨_, rfl⟩
    have hor : bits BinOp.or IntKind.u64 ((r : Int) * 4294967296) (u2 : Int) = (s : Int) := by
      rw [show (r : Int) * 4294967296 = ((r * 4294967296 : Nat) : Int) by omega, u64_or_nat _ _ (by omega) (by omega), nat_join 32 _ _ (by omega) (by omega), hse]
    have HS := hid hse
    have HTT := HT.out
    rw [← HTE.out] at HTT
    clear hme hse
    by_cases hgo : 4294967296 ≤ q ∨ s < m
    · have HU2 : Hid (val U' < q * val V) := hid (by
        rcases hgo with h | h
        · exact HTT.dec2 h
        · exact HTT.dec HQ.out (by rw [← HM.out, ← HS.out]; exact h))
      have hq1 : 1 ≤ q := by
        rcases hgo with h | h
        · omega
        · rcases Nat.eq_zero_or_pos q with h0 | h0
          · have := HM.out; rw [h0] at this; simp at this; omega
          · exact h0
      have HQ2 : Hid ((q - 1) * vh + (r + vh) = top) := hid (by
        obtain ⟨p, rfl⟩ : ∃ p, q = p + 1 := ⟨q - 1, by omega⟩
        have := HQ.out
        rw [Nat.add_mul, Nat.one_mul] at this
        rw [Nat.add_sub_cancel]
        omega)
      have HU3 : Hid (val U' < (q - 1 + 1) * val V) := hid (by rw [show q - 1 + 1 = q by omega]; exact HU2.out)
      by_cases hbr : r + vh < 4294967296
      · clear HTT
        rcases hgo with h | h
        · have h1 : ¬ (q : Int) ≤ 4294967295 := by omega
          go_wp2
          go_round
          case rel => exact ⟨q - 1, r + vh, by go_num, by go_num, by omega, hbr, HQ2, HU3⟩
          case measure => simp [intOf]; omega
        · by_cases h' : 4294967296 ≤ q
          · have h1 : ¬ (q : Int) ≤ 4294967295 := by omega
            go_wp2
            go_round
            case rel => exact ⟨q - 1, r + vh, by go_num, by go_num, by omega, hbr, HQ2, HU3⟩
            case measure => simp [intOf]; omega
          · go_wp2
            go_round
            case rel => exact ⟨q - 1, r + vh, by go_num, by go_num, by omega, hbr, HQ2, HU3⟩
            case measure => simp [intOf]; omega
      · have HB := hid (Tops.broke HT.out hu1 (by rw [← HTE.out]; exact HQ2.out) (show 4294967296 ≤ r + vh by omega))
        have HE : Hid ((q - 1) * val V ≤ val U' + val V) := hid (Tops.fin HTT HQ2.out HB.out.2 (by have := HB.out.1; omega))
        have hql := HB.out.1
        clear HTT HB
        by_cases h' : 4294967296 ≤ q
        · have h1 : ¬ (q : Int) ≤ 4294967295 := by omega
          go_wp2
          go_ret
          exact ⟨q - 1, ret_u32 (by omega), hql, HU3.out, HE.out, (by repeat (first | exact Below.refl _ _ | refine Below.alloc ?_ ?_ _ | refine Below.setCell ?_ ?_ _ | refine Below.drew ?_ | refine below_drewN ?_ _ | (· simp) | omega | (· simp; omega) | exact Below.size (by assumption) | assumption | refine below_call ?_ (by assumption) ?_))⟩
        · have h : s < m := by omega
          go_wp2
          go_ret
          exact ⟨q - 1, ret_u32 (by omega), hql, HU3.out, HE.out, (by repeat (first | exact Below.refl _ _ | refine Below.alloc ?_ ?_ _ | refine Below.setCell ?_ ?_ _ | refine Below.drew ?_ | refine below_drewN ?_ _ | (· simp) | omega | (· simp; omega) | exact Below.size (by assumption) | assumption | refine below_call ?_ (by assumption) ?_))⟩
    · have HE : Hid (q * val V ≤ val U' + val V) := hid (Tops.fin HTT HQ.out (by rw [← HM.out, ← HS.out]; omega) (by omega))
      have hql : q < 4294967296 := by omega
      have hsm : m ≤ s := by omega
      clear HTT
      go_wp2
      go_ret
      exact ⟨q, ret_u32 (by omega), hql, HU.out, HE.out, (by repeat (first | exact Below.refl _ _ | refine Below.alloc ?_ ?_ _ | refine Below.setCell ?_ ?_ _ | refine Below.drew ?_ | refine below_drewN ?_ _ | (· simp) | omega | (· simp; omega) | exact Below.size (by assumption) | assumption | refine below_call ?_ (by assumption) ?_))⟩

end Go.Proofs.Ytalblhcfkfockaa
