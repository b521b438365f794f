/-
  Walks: how great quotients are; what a law of quotients knows from call to call.
-/
import Derived.Test.YtiicjfacekldnaaW42
import Derived.Test.YtiicjfacekldnaaW38
import Derived.Test.YtiicjfacekldnaaW39
import Derived.Test.YtiicjfacekldnaaW40
namespace Go.Proofs.Ytiicjfacekldnaa
open Go.RowKit Lm
set_option linter.unusedSimpArgs false
set_option linter.unusedVariables false
set_option maxRecDepth 100000

def greatR (L : List (Nat × Nat)) : Bool := L.any (fun p => decide (6 < p.1) || decide (6 < p.2))
theorem greatR_yes {L : List (Nat × Nat)} {k : Nat} (h : k < L.length) (h1 : 6 < L[k].1 ∨ 6 < L[k].2) : greatR L = true := by
  unfold greatR
  rw [List.any_eq_true]
  exact ⟨L[k], List.getElem_mem h, by simpa using h1⟩
theorem greatR_no {L : List (Nat × Nat)} (h : ∀ j (hj : j < L.length), L[j].1 ≤ 6 ∧ L[j].2 ≤ 6) : greatR L = false := by
  unfold greatR
  rw [List.any_eq_false]
  intro x hx
  obtain ⟨j, hj, rfl⟩ := List.getElem_of_mem hx
  have := h j hj
  simp
  omega

set_option maxHeartbeats 800000 in
theorem great2_any (w : World) (b cap : Nat) (L : List (Nat × Nat)) (hL : L.length ≤ 100) (hm : ∀ i (h : i < L.length), L[i].1 ≤ 9223372036854775807 ∧ L[i].2 ≤ 9223372036854775807)
    (hc : ∀ i (h : i < L.length), ∃ a1 c1 a2 c2, w.cell? ⟨b, i * 4 + 1, none⟩ = some (.slice a1 L[i].1 c1) ∧ w.cell? ⟨b, i * 4 + 3, none⟩ = some (.slice a2 L[i].2 c2)) :
    Calls Try.prog 34 #[.slice (some ⟨b, 0, none⟩) L.length cap] w fun e w' => e = .returned (.bool (greatR L)) ∧ w' = w := by
  go_enter Try.func34, Try.ntmps34
  go_wp2
  go_loop [3] (fun i => ∃ k : Nat, k ≤ L.length ∧ i = .int .i64 k ∧ ∀ j (hj : j < L.length), j < k → L[j].1 ≤ 6 ∧ L[j].2 ≤ 6) (fun i => L.length - (intOf i).toNat)
  case atStart => exact ⟨0, Nat.zero_le _, rfl, fun j hj hk => by omega⟩
  case round =>
    obtain ⟨k, hk, rfl, hall⟩ := hrel
    have HA := hid hall
    clear hall
    by_cases hlt : k < L.length
    · obtain ⟨a1, c1, a2, c2, hc1, hc2⟩ := hc k hlt
      obtain ⟨hm1, hm2⟩ := hm k hlt
      have HY := hid (greatR_yes hlt)
      obtain ⟨p, hp⟩ : ∃ p, p = L[k] := ⟨_, rfl⟩
      have HP := hid hp
      rw [← hp] at hc1 hc2 hm1 hm2
      rw [← hp] at HY
      clear hp
      by_cases h1 : 6 < p.1
      · have hi1 : (6 : Int) < (p.1 : Int) := by omega
        go_wp2
        go_ret
        exact ⟨ret_bool (HY.out (.inl h1)).symm, rfl⟩
      · have hi1 : ¬ (6 : Int) < (p.1 : Int) := by omega
        by_cases h2 : 6 < p.2
        · have hi2 : (6 : Int) < (p.2 : Int) := by omega
          go_wp2
          go_ret
          exact ⟨ret_bool (HY.out (.inr h2)).symm, rfl⟩
        · have hi2 : ¬ (6 : Int) < (p.2 : Int) := by omega
          go_wp2
          go_round
          case rel =>
            refine ⟨k + 1, by omega, by go_num, fun j hj hjk => ?_⟩
            by_cases hjk2 : j = k
            · subst hjk2
              rw [← HP.out]
              omega
            · exact HA.out j hj (by omega)
          case measure => simp [intOf]; omega
    · go_wp2
      go_ret
      exact ⟨ret_bool (greatR_no (fun j hj => HA.out j hj (by omega))).symm, rfl⟩

variable {U W W' : World} {KA KI : List (Value × Nat × Int)} {KR KS : List (Value × Nat × Rat)} {u v : Value} {n m : Nat} {x y : Int} {r t : Rat}
theorem re_rAdd (E : RE U W KA KI KR KS) (hu : (u, n, r) ∈ KR) (hv : (v, m, t) ∈ KR) (hn : n ≤ 10000) (hm : m ≤ 10000) : Calls Try.prog 45 #[u, v] W (SaysQ U KA KI KR KS (4 * n + 4 * m + 18) (r + t)) :=
  (ratAdd_any W u v n m r t (E.r _ hu) (E.r _ hv) hn hm).mono fun _ _ h => saysQ_of E h
theorem re_rSub (E : RE U W KA KI KR KS) (hu : (u, n, r) ∈ KR) (hv : (v, m, t) ∈ KR) (hn : n ≤ 10000) (hm : m ≤ 10000) : Calls Try.prog 47 #[u, v] W (SaysQ U KA KI KR KS (4 * n + 4 * m + 18) (r - t)) :=
  (ratSub_any W u v n m r t (E.r _ hu) (E.r _ hv) hn hm).mono fun _ _ h => saysQ_of E h
theorem re_rMul (E : RE U W KA KI KR KS) (hu : (u, n, r) ∈ KR) (hv : (v, m, t) ∈ KR) (hn : n ≤ 40000) (hm : m ≤ 40000) : Calls Try.prog 49 #[u, v] W (SaysQ U KA KI KR KS (n + n + m + m + 8) (r * t)) :=
  (ratMul_any W u v n m r t (E.r _ hu) (E.r _ hv) hn hm).mono fun _ _ h => saysQ_of E h
theorem re_rDiv (E : RE U W KA KI KR KS) (hu : (u, n, r) ∈ KR) (hv : (v, m, t) ∈ KR) (ht : t ≠ 0) (hn : n ≤ 40000) (hm : m ≤ 40000) : Calls Try.prog 43 #[u, v] W (SaysE U KA KI KR KS (n + n + m + m + 8) (r / t)) := by
  refine (ratDiv_any W u v n m r t (E.r _ hu) (E.r _ hv) hn hm ht).mono ?_
  rintro e w' ⟨n1, a1, k1, c1, n2, a2, k2, c2, rfl, hI, hb⟩
  exact ⟨n1, a1, k1, c1, n2, a2, k2, c2, rfl, (E.step hb).knowS hI⟩
theorem re_rDivz (E : RE U W KA KI KR KS) (hu : (u, n, r) ∈ KR) (hv : (v, m, t) ∈ KR) (ht : t = 0) (hn : n ≤ 40000) (hm : m ≤ 40000) : Calls Try.prog 43 #[u, v] W fun e w' => e = .returned (.tuple #[.agg #[.bool false, .slice none 0 0, .bool false, .slice none 0 0], .int .i64 11]) ∧ RE U w' KA KI KR KS := by
  refine (ratDiv_zero W u v n m r t (E.r _ hu) (E.r _ hv) hn hm ht).mono ?_
  rintro e w' ⟨rfl, hb⟩
  exact ⟨rfl, E.step hb⟩
theorem re_rCmp (E : RE U W KA KI KR KS) (hu : (u, n, r) ∈ KR) (hv : (v, m, t) ∈ KR) (hn : n ≤ 40000) (hm : m ≤ 40000) : Calls Try.prog 51 #[u, v] W fun e w' => e = .returned (.int .i64 (cmpR r t)) ∧ RE U w' KA KI KR KS := by
  refine (ratCmp_any W u v n m r t (E.r _ hu) (E.r _ hv) hn hm).mono ?_
  rintro e w' ⟨rfl, hb⟩
  exact ⟨rfl, E.step hb⟩
theorem re_floor (E : RE U W KA KI KR KS) (hu : (u, n, r) ∈ KR) (hn : n ≤ 40000) : Calls Try.prog 53 #[u] W (SaysN U KA KI KR KS (n + 5) r.floor) :=
  (ratFloor_any W u n r (E.r _ hu) hn).mono fun _ _ h => saysN_of E h
theorem re_rText (E : RE U W KA KI KR KS) (hu : (u, n, r) ∈ KR) (hn : n ≤ 30000) : Calls Try.prog 82 #[u] W fun e w' => e = .returned (.string (textR r)) ∧ RE U w' KA KI KR KS := by
  refine (ratText_any W u n r (E.r _ hu) hn).mono ?_
  rintro e w' ⟨rfl, hb⟩
  exact ⟨rfl, E.step hb⟩
theorem rarg_zero (W : World) : RArg W (.agg #[.bool false, .slice none 0 0, .bool false, .slice none 0 0]) 0 0 := by
  have h : SlAt W none 0 [] := ⟨ok_nil, by simp, by unfold maxLen; omega, .inl ⟨rfl, fun _ => rfl⟩⟩
  refine ⟨false, _, [], false, _, [], rfl, ⟨none, 0, rfl, h⟩, ⟨none, 0, rfl, h⟩, by simp, by simp, ?_⟩
  rw [ratMean_not]
  rintro ⟨_, _, h3, _⟩
  simp [sgn, val] at h3
theorem re_zeroR (E : RE U W KA KI KR KS) : RE U W KA KI ((.agg #[.bool false, .slice none 0 0, .bool false, .slice none 0 0], 0, 0) :: KR) KS := E.knowR (rarg_zero W)

end Go.Proofs.Ytiicjfacekldnaa
