/-
  Walks: what divides both, of limbs.
-/
import Derived.Test.YtalblhcfkfockaaW24
import Derived.Test.YtalblhcfkfockaaW19
namespace Go.Proofs.Ytalblhcfkfockaa
open Go.RowKit Lm
set_option linter.unusedSimpArgs false
set_option linter.unusedVariables false
set_option maxRecDepth 100000

theorem gcd_step (a b : Nat) : Nat.gcd b (a % b) = Nat.gcd a b := by
  rw [Nat.gcd_comm b (a % b), ← Nat.gcd_rec, Nat.gcd_comm]
theorem gcd_le_max {a b N : Nat} (ha : a < N) (hb : b < N) (h : 0 < a ∨ 0 < b) : Nat.gcd a b < N := by
  rcases h with h | h
  · exact Nat.lt_of_le_of_lt (Nat.gcd_le_left _ h) ha
  · exact Nat.lt_of_le_of_lt (Nat.gcd_le_right _ h) hb
theorem gcd_lt {a b N : Nat} (ha : a < N) (hb : b < N) : Nat.gcd a b < N := by
  by_cases h : 0 < a ∨ 0 < b
  · exact gcd_le_max ha hb h
  · have h1 : a = 0 := by omega
    have h2 : b = 0 := by omega
    subst h1 h2
    simpa using ha

def GWRel (w : World) (G : Nat) (av bv : Value) (wr : World) : Prop :=
  ∃ a b : Nat, av = .int .u64 (a : Int) ∧ bv = .int .u64 (b : Int) ∧ a < 18446744073709551616 ∧ b < 18446744073709551616 ∧ Hid (Nat.gcd a b = G) ∧ Below w.heap.size w wr

set_option maxHeartbeats 1600000 in
theorem gcdWords_any (w : World) (a b : Nat) (ha : a < 18446744073709551616) (hb : b < 18446744073709551616) :
    Calls Try.prog 104 #[.int .u64 (a : Int), .int .u64 (b : Int)] w fun e w' => e = .returned (.int .u64 ((Nat.gcd a b : Nat) : Int)) ∧ Below w.heap.size w w' := by
  go_enter Try.func104, Try.ntmps104
  go_wp2
  go_loopw [0, 1] (fun av bv wr => GWRel w (Nat.gcd a b) av bv wr) (fun av bv wr => (intOf bv).toNat)
  case atStart => exact ⟨a, b, rfl, rfl, ha, hb, rfl, Below.refl _ _⟩
  case round =>
    obtain ⟨x, y, rfl, rfl, hx, hy, HG, hbw⟩ := hrel
    by_cases hy0 : y = 0
    · subst hy0
      have HX : Hid (x = Nat.gcd a b) := hid (by rw [← HG.out]; simp)
      go_wp2
      go_ret
      exact ⟨by rw [← HX.out]; rfl, hbw⟩
    · have hm := Nat.mod_lt x (show y > 0 by omega)
      have HM := hid hm
      clear hm
      go_wp2
      go_quiet (fail)
      go_wp2
      go_roundw
      case rel => exact ⟨y, x % y, by go_num, by rw [Int.natCast_emod], hy, Nat.lt_trans HM.out hy, hid (by rw [gcd_step]; exact HG.out), (by repeat (first | exact Below.refl _ _ | refine Below.alloc ?_ ?_ _ | refine Below.setCell ?_ ?_ _ | refine Below.drew ?_ | refine below_drewN ?_ _ | (· simp) | omega | (· simp; omega) | exact Below.size (by assumption) | assumption | refine below_call ?_ (by assumption) ?_))⟩
      case measure =>
        have := HM.out
        have e : (x : Int) % (y : Int) = ((x % y : Nat) : Int) := by rw [Int.natCast_emod]
        simp only [intOf, e]
        omega

/-- What stands at the head of a round of gcdLimbs. -/
def GLRel (W : World) (N G m : Nat) (av bv : Value) (wr : World) : Prop :=
  ∃ (ao : Option Addr) (ca ka : Nat) (la : List Nat) (bo : Option Addr) (cb kb : Nat) (lb : List Nat), av = .slice ao ka ca ∧ bv = .slice bo kb cb ∧ Hid (ka = la.length) ∧ Hid (kb = lb.length) ∧ m = val lb ∧ SlAt wr ao ca la ∧ SlAt wr bo cb lb ∧ canon la ∧ canon lb ∧ la.length ≤ N ∧ lb.length ≤ N ∧ Hid (Nat.gcd (val la) (val lb) = G) ∧ Below W.heap.size W wr

theorem wordOf_k (w : World) (ao : Option Addr) (cap k : Nat) (l : List Nat) (hk : k = l.length) (h : SlAt w ao cap l) (hl : l.length ≤ 2) :
    Calls Try.prog 105 #[.slice ao k cap] w fun e w' => e = .returned (.int .u64 (val l : Nat)) ∧ w' = w := by
  subst hk
  exact wordOf_any w ao cap l h hl
theorem divLimbs_k (N : Nat) (hN : N ≤ 999999) (W : World) (ao : Option Addr) (ca ka : Nat) (la : List Nat) (bo : Option Addr) (cb kb : Nat) (lb : List Nat) (hka : ka = la.length) (hkb : kb = lb.length) (ha : SlAt W ao ca la) (hb : SlAt W bo cb lb) (hca : canon la) (hcb : canon lb) (hne : lb.length ≠ 0) (hla : la.length ≤ N) (hlb : lb.length ≤ N) :
    Calls Try.prog 106 #[.slice ao ka ca, .slice bo kb cb] W (DivPost W la lb) := by
  subst hka hkb
  exact divSaid_all W ao ca la bo cb lb ha hb hca hcb hne (by omega) (by omega)
theorem trimmed_k (w : World) (ao : Option Addr) (cap k : Nat) (l : List Nat) (hk : k = l.length) (h : SlAt w ao cap l) :
    Calls Try.prog 85 #[.slice ao k cap] w fun e w' => ∃ n, e = .returned (.slice ao n cap) ∧ w' = w ∧ n ≤ l.length ∧ canon (l.take n) ∧ val (l.take n) = val l := by
  subst hk
  exact trimmed_any w ao cap l h
theorem len_of_lt {a b : List Nat} {N : Nat} (ca : canon a) (ob : ok b) (h : val a < val b) (hb : b.length ≤ N) : a.length ≤ N := by
  rcases Nat.lt_or_ge N a.length with h1 | h1
  · have h2 := canon_pos ca (by intro e; subst e; simp at h1)
    have h3 := val_lt ob
    have h4 := pw_mono (show b.length ≤ a.length - 1 by omega)
    omega
  · exact h1
theorem word_lt {l : List Nat} (hok : ok l) (hl : l.length ≤ 2) : val l < 18446744073709551616 := by
  have h1 := val_lt hok
  have h2 := pw_mono hl
  simp only [pw] at h2
  omega

set_option maxHeartbeats 3200000 in
theorem gcdLimbs_any (w : World) (ao : Option Addr) (ca ka : Nat) (la : List Nat) (bo : Option Addr) (cb kb : Nat) (lb : List Nat) (hka : ka = la.length) (hkb : kb = lb.length) (ha : SlAt w ao ca la) (hb : SlAt w bo cb lb) (hca : canon la) (hcb : canon lb) (N : Nat) (hN : N ≤ 999999) (hla : la.length ≤ N) (hlb : lb.length ≤ N) :
    Calls Try.prog 98 #[.slice ao ka ca, .slice bo kb cb] w (Made w (N + 2) (Nat.gcd (val la) (val lb))) := by
  go_enter Try.func98, Try.ntmps98
  go_wp2
  go_loopg [0, 1] (val lb) (fun m av bv wr => GLRel w N (Nat.gcd (val la) (val lb)) m av bv wr)
  case atStart => exact ⟨ao, ca, ka, la, bo, cb, kb, lb, rfl, rfl, hka, hkb, rfl, ha, hb, hca, hcb, hla, hlb, rfl, Below.refl _ _⟩
  case round =>
    obtain ⟨ao1, ca1, ka1, l1, bo1, cb1, kb1, l2, rfl, rfl, HK1, HK2, hgk, h1, h2, hc1, hc2, hl1, hl2, HG, hbw⟩ := hrel
    have HGK := hid hgk
    have hk1m : ka1 ≤ 9223372036854775807 := by have a := h1.2.1; have b := h1.2.2.1; have c := HK1.out; unfold maxLen at b; omega
    have hk2m : kb1 ≤ 9223372036854775807 := by have a := h2.2.1; have b := h2.2.2.1; have c := HK2.out; unfold maxLen at b; omega
    clear hgk
    by_cases hk0 : kb1 = 0
    · have HF : Hid (val l1 = Nat.gcd (val la) (val lb)) := hid (by
        rw [← HG.out, List.eq_nil_of_length_eq_zero (HK2.out.symm.trans hk0)]
        simp [val])
      rw [hk0]
      clear hk2m
      go_wp2_with fail
      refine (copied_k _ ao1 ca1 ka1 l1 HK1.out h1 (by omega)).mono ?_
      rintro e w2 ⟨rfl, hs2, hb2⟩
      have HM : Hid (Made w (N + 2) (Nat.gcd (val la) (val lb)) (.returned (.slice (some ⟨wr.heap.size, 0, none⟩) ka1 ka1)) w2) :=
        ⟨wr.heap.size, ka1, ka1, l1, rfl, HK1, hs2, hbw.size, by omega, HF.out, below_call hbw hb2 hbw.size⟩
      clear hs2 hb2
      go_wp2
      go_ret
      exact HM.out
    · by_cases hs : ka1 ≤ 2 ∧ kb1 ≤ 2
      · obtain ⟨hs1, hs2⟩ := hs
        have HW1 := hid (word_lt h1.1 (by rw [← HK1.out]; exact hs1))
        have HW2 := hid (word_lt h2.1 (by rw [← HK2.out]; exact hs2))
        go_wp2_with fail
        refine (wordOf_k _ ao1 ca1 ka1 l1 HK1.out h1 (by rw [← HK1.out]; exact hs1)).mono ?_
        rintro e w2 ⟨rfl, rfl⟩
        go_wp2_with fail
        refine (wordOf_k _ bo1 cb1 kb1 l2 HK2.out h2 (by rw [← HK2.out]; exact hs2)).mono ?_
        rintro e w3 ⟨rfl, rfl⟩
        go_wp2_with fail
        refine (gcdWords_any _ (val l1) (val l2) HW1.out HW2.out).mono ?_
        rintro e w4 ⟨rfl, hb4⟩
        have HGL := hid (gcd_lt HW1.out HW2.out)
        go_wp2_with fail
        refine (limbsOf_any _ (Nat.gcd (val l1) (val l2)) HGL.out).mono ?_
        rintro e w5 ⟨rfl, hr5, hb5⟩
        have HM : Hid (Made w (N + 2) (Nat.gcd (val la) (val lb)) (.returned (.slice (some ⟨w4.heap.size, 0, none⟩) 2 2)) w5) := by
          have hW4 := below_call hbw hb4 hbw.size
          refine ⟨w4.heap.size, 2, 2, [Nat.gcd (val l1) (val l2) % 4294967296, Nat.gcd (val l1) (val l2) / 4294967296], rfl, rfl, hr5.whole (ok_two HGL.out) (by simp), hW4.size, by simp, ?_, below_call hW4 hb5 hW4.size⟩
          rw [val_two]; exact HG.out
        clear hr5 hb5 hb4
        go_wp2
        go_ret
        exact HM.out
      · go_wp2_with fail
        all_goals
          refine (divLimbs_k N hN _ ao1 ca1 ka1 l1 bo1 cb1 kb1 l2 HK1.out HK2.out h1 h2 hc1 hc2 (by rw [← HK2.out]; exact hk0) hl1 hl2).mono ?_
          rintro e w2 ⟨qa, qn, qc, ra, rn, rc, q, r, rfl, hqn, hrn, hq, hfq, hr, hfr, hv, hlt, hql, hrl, hb2⟩
          have HRN := hid hrn
          have HLT := hid hlt
          have HMOD : Hid (val r = val l1 % val l2) := hid (by
            rw [hv, Nat.mul_comm, Nat.mul_add_mod, Nat.mod_eq_of_lt hlt])
          have hbr := h2.below hb2
          clear hqn hrn hq hfq hfr hv hql hrl hlt
          go_wp2_with fail
          refine (trimmed_k _ ra rc rn r HRN.out hr).mono ?_
          rintro e w3 ⟨n, rfl, rfl, hn, hcn, hvn⟩
          have HVN := hid hvn
          have hrt := hr.take n hn
          have HTL := hid (take_len hn)
          have HLE := hid (len_of_lt hcn h2.1 (by rw [hvn]; exact HLT.out) hl2)
          clear hvn
          go_wp2
          go_roundg (val (r.take n))
          case measure => rw [HVN.out, HGK.out]; exact HLT.out
          case rel =>
            exact ⟨bo1, cb1, kb1, l2, ra, rc, n, r.take n, rfl, rfl, HK2, HTL.out.symm, rfl, hbr, hrt, hc2, hcn, hl2, HLE.out, hid (by rw [HVN.out, HMOD.out, gcd_step]; exact HG.out), below_call hbw hb2 hbw.size⟩

end Go.Proofs.Ytalblhcfkfockaa
