/-
  Slices of quotients with ends that came in; folds of them.
-/
import Derived.Test.YtalblhcfkfockaaXB
import Derived.Test.YtalblhcfkfockaaG3a
namespace Go.Proofs.Ytalblhcfkfockaa
open Go.RowKit Lm
set_option linter.unusedSimpArgs false
set_option linter.unusedVariables false
set_option maxRecDepth 100000

/-- An element that came in: its kind, signs and limbs. -/
structure ERaw where
  k : Int
  n1 : Bool
  l1 : List Nat
  n2 : Bool
  l2 : List Nat
def ERaw.x (q : ERaw) : EX := extMean q.k q.n1 q.l1 q.n2 q.l2
def At5 (w : World) (b o : Nat) (p q r s t : Value) : Prop := w.cell? ⟨b, o, none⟩ = some p ∧ w.cell? ⟨b, o + 1, none⟩ = some q ∧ w.cell? ⟨b, o + 2, none⟩ = some r ∧ w.cell? ⟨b, o + 3, none⟩ = some s ∧ w.cell? ⟨b, o + 4, none⟩ = some t
theorem At5.below {w W : World} {b o : Nat} {p q r s t : Value} (h : At5 w b o p q r s t) (hl : b < w.heap.size) (hb : Below w.heap.size w W) : At5 W b o p q r s t :=
  ⟨((bcell hb).1 _ _ hl).trans h.1, ((bcell hb).1 _ _ hl).trans h.2.1, ((bcell hb).1 _ _ hl).trans h.2.2.1, ((bcell hb).1 _ _ hl).trans h.2.2.2.1, ((bcell hb).1 _ _ hl).trans h.2.2.2.2⟩
def EAt (w : World) (b o : Nat) (q : ERaw) : Prop := ∃ a1 c1 a2 c2, At5 w b o (.int .i64 q.k) (.bool q.n1) (.slice a1 q.l1.length c1) (.bool q.n2) (.slice a2 q.l2.length c2) ∧ SlAt w a1 c1 q.l1 ∧ SlAt w a2 c2 q.l2
def RawE (w : World) (ao : Option Addr) (cap : Nat) (L : List ERaw) : Prop := L.length ≤ cap ∧ cap ≤ maxLen ∧ (L.length = 0 ∨ ∃ b off, ao = some ⟨b, off, none⟩ ∧ b < w.heap.size ∧ ∀ i (h : i < L.length), EAt w b (off + i * 5) L[i])
theorem EAt.arg {w : World} {b o n : Nat} {q : ERaw} (h : EAt w b o q) (h1 : q.l1.length ≤ n) (h2 : q.l2.length ≤ n) : ∃ a1 c1 a2 c2, At5 w b o (.int .i64 q.k) (.bool q.n1) (.slice a1 q.l1.length c1) (.bool q.n2) (.slice a2 q.l2.length c2) ∧ EArg w (.agg #[.int .i64 q.k, .bool q.n1, .slice a1 q.l1.length c1, .bool q.n2, .slice a2 q.l2.length c2]) n q.x := by
  obtain ⟨a1, c1, a2, c2, h3, h4, h5⟩ := h
  exact ⟨a1, c1, a2, c2, h3, _, _, _, _, _, _, _, _, _, rfl, h4, h5, h1, h2, rfl⟩

/-- How great a value is. -/
def EB (k : Nat) (x : EX) : Prop := ∀ r, x = .q r → r.num.natAbs < pw k ∧ r.den < pw k
theorem EIs.tight {w : World} {n k : Nat} {m1 m2 : Bool} {p1 p2 : Option Addr} {j1 d1 j2 d2 : Nat} {x : EX} (h : EIs w n m1 p1 j1 d1 m2 p2 j2 d2 x) (hx : EB k x) : EIs w k m1 p1 j1 d1 m2 p2 j2 d2 x := by
  cases x
  · exact h
  · rename_i r
    exact RIs.tight h (hx r rfl).1 (hx r rfl).2
  · exact h
theorem eb_raw (q : ERaw) (k : Nat) (hk : 1 ≤ k) (o1 : ok q.l1) (o2 : ok q.l2) (h1 : q.l1.length ≤ k) (h2 : q.l2.length ≤ k) : EB k q.x := by
  intro r hr
  have hz : (0 : Rat).num.natAbs < pw k ∧ (0 : Rat).den < pw k := by
    have h3 := pw_mono hk
    have h4 : pw 1 = 4294967296 := rfl
    exact ⟨by simp; omega, by show 1 < _; omega⟩
  unfold ERaw.x extMean at hr
  split at hr
  · split at hr <;> simp at hr
  · split at hr
    · simp only [EX.q.injEq] at hr
      subst hr
      by_cases hf : formB q.n1 q.l1 q.n2 q.l2
      · have hp := ratMean_parts hf
        have v1 := val_lt o1
        have v2 := val_lt o2
        have m1 := pw_mono h1
        have m2 := pw_mono h2
        have e1 := sgn_abs q.n1 (val q.l1)
        have e2 := sgn_abs q.n2 (val q.l2)
        rw [← hp.2] at e2
        simp at e2
        exact ⟨by rw [hp.1, e1]; omega, by omega⟩
      · rw [ratMean_not hf]; exact hz
    · simp only [EX.q.injEq] at hr
      subst hr
      exact hz

/-- The greatest of some, the least. -/
def Top (S : List EX) (i : Nat) (m : EX) : Prop := m ∈ S ∧ ∀ j (h : j < S.length), j < i → cmpE S[j] m ≤ 0
def Low (S : List EX) (i : Nat) (m : EX) : Prop := m ∈ S ∧ ∀ j (h : j < S.length), j < i → cmpE m S[j] ≤ 0
def TopR (S : List EX) (i : Nat) (m : EX) : Prop := m ∈ S ∧ ∀ j (h : j < S.length), S.length ≤ j + i → cmpE S[j] m ≤ 0
def LowR (S : List EX) (i : Nat) (m : EX) : Prop := m ∈ S ∧ ∀ j (h : j < S.length), S.length ≤ j + i → cmpE m S[j] ≤ 0
theorem cmpE_refl (x : EX) : cmpE x x ≤ 0 := by rw [(cmpE_eq_iff x x).2 rfl]; omega
theorem max_left (x y : EX) : cmpE x (maxE x y) ≤ 0 := by
  unfold maxE
  split
  · omega
  · exact cmpE_refl x
theorem max_right (x y : EX) : cmpE y (maxE x y) ≤ 0 := by
  unfold maxE
  split
  · exact cmpE_refl y
  · have := cmpE_swap x y; omega
theorem min_left (x y : EX) : cmpE (minE x y) x ≤ 0 := by
  unfold minE
  split
  · omega
  · exact cmpE_refl x
theorem min_right (x y : EX) : cmpE (minE x y) y ≤ 0 := by
  unfold minE
  split
  · exact cmpE_refl y
  · have := cmpE_swap y x; omega
theorem max_in {S : List EX} {x y : EX} (hx : x ∈ S) (hy : y ∈ S) : maxE x y ∈ S := by unfold maxE; split <;> assumption
theorem min_in {S : List EX} {x y : EX} (hx : x ∈ S) (hy : y ∈ S) : minE x y ∈ S := by unfold minE; split <;> assumption
theorem Top.next {S : List EX} {i : Nat} {m : EX} (h : Top S i m) (hi : i < S.length) : Top S (i + 1) (maxE m S[i]) := by
  refine ⟨max_in h.1 (List.getElem_mem hi), fun j hj hji => ?_⟩
  by_cases e : j = i
  · subst e; exact max_right _ _
  · exact cmpE_trans (h.2 j hj (by omega)) (max_left _ _)
theorem TopR.next {S : List EX} {i k : Nat} {m : EX} (h : TopR S i m) (hi : i < S.length) (hk : k = S.length - 1 - i) (hks : k < S.length) : TopR S (i + 1) (maxE S[k] m) := by
  refine ⟨max_in (List.getElem_mem hks) h.1, fun j hj hji => ?_⟩
  by_cases e : j = k
  · subst e; exact max_left _ _
  · exact cmpE_trans (h.2 j hj (by omega)) (max_right _ _)
theorem Low.next {S : List EX} {i : Nat} {m : EX} (h : Low S i m) (hi : i < S.length) : Low S (i + 1) (minE m S[i]) := by
  refine ⟨min_in h.1 (List.getElem_mem hi), fun j hj hji => ?_⟩
  by_cases e : j = i
  · subst e; exact min_right _ _
  · exact cmpE_trans (min_left _ _) (h.2 j hj (by omega))
theorem LowR.next {S : List EX} {i k : Nat} {m : EX} (h : LowR S i m) (hi : i < S.length) (hk : k = S.length - 1 - i) (hks : k < S.length) : LowR S (i + 1) (minE S[k] m) := by
  refine ⟨min_in (List.getElem_mem hks) h.1, fun j hj hji => ?_⟩
  by_cases e : j = k
  · subst e; exact min_left _ _
  · exact cmpE_trans (min_right _ _) (h.2 j hj (by omega))
theorem top_one {S : List EX} {m k : EX} (h : Top S S.length m) (h2 : TopR S S.length k) : m = k := by
  obtain ⟨i, hi, rfl⟩ := List.getElem_of_mem h.1
  obtain ⟨j, hj, rfl⟩ := List.getElem_of_mem h2.1
  have q1 := h.2 j hj hj
  have q2 := h2.2 i hi (by omega)
  have q3 := cmpE_swap S[i] S[j]
  exact (cmpE_eq_iff _ _).1 (by omega)
theorem low_one {S : List EX} {m k : EX} (h : Low S S.length m) (h2 : LowR S S.length k) : m = k := by
  obtain ⟨i, hi, rfl⟩ := List.getElem_of_mem h.1
  obtain ⟨j, hj, rfl⟩ := List.getElem_of_mem h2.1
  have q1 := h.2 j hj hj
  have q2 := h2.2 i hi (by omega)
  have q3 := cmpE_swap S[i] S[j]
  exact (cmpE_eq_iff _ _).1 (by omega)

set_option maxHeartbeats 1600000 in
theorem great3o_any (w : World) (b off cap : Nat) (L : List (Nat × Nat)) (k0 : Nat) (hk0 : k0 = L.length) (hL : L.length ≤ 100) (hcap : k0 ≤ cap) (hbw : b < w.heap.size) (hm : ∀ i (h : i < L.length), L[i].1 ≤ 9223372036854775807 ∧ L[i].2 ≤ 9223372036854775807)
    (hc : ∀ i (h : i < L.length), ∃ n1 a1 c1 n2 a2 c2, w.cell? ⟨b, off + i * 5 + 1, none⟩ = some (.bool n1) ∧ w.cell? ⟨b, off + i * 5 + 2, none⟩ = some (.slice a1 L[i].1 c1) ∧ w.cell? ⟨b, off + i * 5 + 3, none⟩ = some (.bool n2) ∧ w.cell? ⟨b, off + i * 5 + 4, none⟩ = some (.slice a2 L[i].2 c2)) :
    Calls Try.prog 8 #[.slice (some ⟨b, off, none⟩) k0 cap] w fun e w' => e = .returned (.bool (greatR L)) ∧ Below w.heap.size w w' := by
  have HK0 := hid hk0
  have hk1 : k0 ≤ 100 := by omega
  clear hk0
  go_enter Try.func8, Try.ntmps8
  go_wp2
  go_loopw [3] (fun iv wr => GxRel w L iv wr) (fun iv wr => k0 - (intOf iv).toNat)
  case atStart => exact ⟨0, Nat.zero_le _, rfl, fun j hj hk => by omega, Below.refl _ _⟩
  case round =>
    obtain ⟨k, hk, rfl, hall, hbel⟩ := hrel
    have HA := hid hall
    clear hall
    by_cases hlt : k < k0
    · have hlt2 : k < L.length := by have := HK0.out; omega
      obtain ⟨n1, a1, c1, n2, a2, c2, hc1, hc2, hc3, hc4⟩ := hc k hlt2
      obtain ⟨hm1, hm2⟩ := hm k hlt2
      have HY := hid (greatR_yes hlt2)
      obtain ⟨p, hp⟩ : ∃ p, p = L[k] := ⟨_, rfl⟩
      have HP := hid hp
      rw [← hp] at hc2 hc4 hm1 hm2
      rw [← hp] at HY
      clear hp
      replace hc1 := ((bcell hbel).1 b _ hbw).trans hc1
      replace hc2 := ((bcell hbel).1 b _ hbw).trans hc2
      replace hc3 := ((bcell hbel).1 b _ hbw).trans hc3
      replace hc4 := ((bcell hbel).1 b _ hbw).trans hc4
      have hd2 : wr.cell? ⟨b, off + k * 5 + 1 + 1, none⟩ = _ := hc2
      have hd3 : wr.cell? ⟨b, off + k * 5 + 1 + 2, none⟩ = _ := hc3
      have hd4 : wr.cell? ⟨b, off + k * 5 + 1 + 3, none⟩ = _ := hc4
      go_wp2_with fail
      refine (great_r1 _ _ n1 n2 a1 a2 p.1 c1 p.2 c2 (by simp) hm1 hm2).mono ?_
      rintro e w1 ⟨rfl, rfl⟩
      have HB : Hid (Below w.heap.size w (wr.alloc (.cells #[.bool n1, .slice a1 p.1 c1, .bool n2, .slice a2 p.2 c2] 29))) := hid (hbel.alloc hbel.size _)
      clear hc1 hc2 hc3 hc4 hd2 hd3 hd4
      cases hG : greatR [(p.1, p.2)]
      · have HS : Hid (p.1 ≤ 6 ∧ p.2 ≤ 6) := hid (great_small hG _ (List.Mem.head _))
        clear hG
        go_wp2
        go_roundw
        case rel =>
          refine ⟨k + 1, by have := HK0.out; omega, by go_num, fun j hj hjk => ?_, HB.out⟩
          by_cases hjk2 : j = k
          · subst hjk2
            rw [← HP.out]
            exact HS.out
          · exact HA.out j hj (by omega)
        case measure => simp [intOf]; omega
      · have HS : Hid (6 < p.1 ∨ 6 < p.2) := hid (by simpa [greatR] using hG)
        clear hG
        go_wp2
        go_ret
        exact ⟨ret_bool (HY.out HS.out).symm, HB.out⟩
    · have HB := hid hbel
      go_wp2
      go_ret
      exact ⟨ret_bool (greatR_no (fun j hj => HA.out j hj (by have := HK0.out; omega))).symm, HB.out⟩

end Go.Proofs.Ytalblhcfkfockaa
