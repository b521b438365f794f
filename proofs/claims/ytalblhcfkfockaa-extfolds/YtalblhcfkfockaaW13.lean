/-
  Walks: sums, differences, order of limbs.
-/
import Derived.Test.YtalblhcfkfockaaW12
namespace Go.Proofs.Ytalblhcfkfockaa
open Go.RowKit Lm
set_option linter.unusedSimpArgs false
set_option linter.unusedVariables false
set_option maxRecDepth 100000

/-- Limbs that a call has made: in new memory, so many, that come to V. -/
def Made (W : World) (L V : Nat) (e : Ending) (w' : World) : Prop :=
  ∃ g cap k l, e = .returned (.slice (some ⟨g, 0, none⟩) k cap) ∧ Hid (k = l.length) ∧ SlAt w' (some ⟨g, 0, none⟩) cap l ∧ W.heap.size ≤ g ∧ l.length ≤ L ∧ val l = V ∧ Below W.heap.size W w'

theorem splice_u (n : Nat) (l : List Nat) (h : l.length ≤ n) : splice (U (List.replicate n 0)) 0 (U l) = U (l ++ List.replicate (n - l.length) 0) := by
  unfold splice
  simp [U]
theorem val_pad (l : List Nat) (m : Nat) : val (l ++ List.replicate m 0) = val l := by
  rw [val_append, val_replicate]; omega

theorem addInto_k (w : World) (g o cap ka : Nat) (P A T : List Nat) (bo : Option Addr) (cb : Nat) (B : List Nat) (ho : o = P.length) (hka : ka = A.length) (hrow : RowAt w g (P ++ (A ++ T))) (hok : ok A) (hl : A.length ≤ 2000000) (hc : A.length ≤ cap) (hcm : cap ≤ 9223372036854775807)
    (hB : SlAt w bo cb B) (hne : 0 < B.length → ∀ ad, bo = some ad → ad.block ≠ g) (hBA : B.length ≤ A.length) :
    Calls Try.prog 116 #[.slice (some ⟨g, o, none⟩) ka cap, .slice bo B.length cb] w fun e w' => ∃ (A' : List Nat) (c : Nat), e = .returned (.int .u32 (c : Int)) ∧ RowAt w' g (P ++ (A' ++ T)) ∧ A'.length = A.length ∧ ok A' ∧ val A' + pw A.length * c = val A + val B ∧ c ≤ 1 ∧ w.grownBy w' (some g) := by
  subst hka
  exact addInto_any w g o cap P A T bo cb B ho hrow hok hl hc hcm hB hne hBA
theorem subFrom_k (w : World) (g o cap ka : Nat) (P A T : List Nat) (bo : Option Addr) (cb : Nat) (B : List Nat) (ho : o = P.length) (hka : ka = A.length) (hrow : RowAt w g (P ++ (A ++ T))) (hok : ok A) (hl : A.length ≤ 2000000) (hc : A.length ≤ cap) (hcm : cap ≤ 9223372036854775807)
    (hB : SlAt w bo cb B) (hne : 0 < B.length → ∀ ad, bo = some ad → ad.block ≠ g) (hBA : B.length ≤ A.length) :
    Calls Try.prog 118 #[.slice (some ⟨g, o, none⟩) ka cap, .slice bo B.length cb] w fun e w' => ∃ (A' : List Nat) (c : Nat), e = .returned (.int .u32 (c : Int)) ∧ RowAt w' g (P ++ (A' ++ T)) ∧ A'.length = A.length ∧ ok A' ∧ val A + pw A.length * c = val A' + val B ∧ c ≤ 1 ∧ w.grownBy w' (some g) := by
  subst hka
  exact subFrom_any w g o cap P A T bo cb B ho hrow hok hl hc hcm hB hne hBA
theorem no_carry {A B A' : List Nat} {c : Nat} (ha : ok A) (hb : ok B) (hle : B.length ≤ A.length) (h : val A' + pw (A.length + 1) * c = val A + val B) : val A' = val A + val B := by
  have h1 := val_lt ha
  have h2 := val_lt hb
  have h3 := pw_mono hle
  by_cases h0 : c = 0
  · subst h0; simpa using h
  · exfalso
    have h4 : pw (A.length + 1) * 1 ≤ pw (A.length + 1) * c := Nat.mul_le_mul_left _ (by omega)
    simp only [pw] at h4 h
    omega
theorem no_borrow {A B A' : List Nat} {c : Nat} (hok : ok A') (hl : A'.length = A.length) (hv : val B ≤ val A) (h : val A + pw A.length * c = val A' + val B) : val A' = val A - val B := by
  have h1 := val_lt hok
  rw [hl] at h1
  by_cases h0 : c = 0
  · subst h0; simp at h; omega
  · exfalso
    have h4 : pw A.length * 1 ≤ pw A.length * c := Nat.mul_le_mul_left _ (by omega)
    omega
/-- What came in lies in no new block (or is empty). -/
theorem slAt_ne_aux {w : World} {bo : Option Addr} {cb : Nat} {B : List Nat} (h : SlAt w bo cb B) (hp : 0 < B.length) : ∀ ad, bo = some ad → ad.block ≠ w.heap.size := by
  intro ad e
  rcases h.2.2.2 with ⟨h0, _⟩ | ⟨b, off, e2, hlt, _⟩
  · omega
  · rw [e] at e2; simp at e2; subst e2; simp; omega

set_option maxHeartbeats 1600000 in
theorem addLimbs_le (w : World) (ao : Option Addr) (ca : Nat) (A : List Nat) (bo : Option Addr) (cb : Nat) (B : List Nat) (ha : SlAt w ao ca A) (hb : SlAt w bo cb B) (hN : A.length ≤ 1000000) (hle : B.length ≤ A.length) :
    Calls Try.prog 110 #[.slice ao A.length ca, .slice bo B.length cb] w (Made w (A.length + 1) (val A + val B)) := by
  have hca := ha.2.2.1
  have hcb := hb.2.2.1
  unfold maxLen at hca hcb
  have hla := ha.2.1
  have hlb := hb.2.1
  obtain ⟨i0, hi, hz0, hz1, hz2⟩ := info_parts Try.info32
  go_enter Try.func110, Try.ntmps110
  go_wp2_with (first
    | (at_make; go_must (refine wpList_make_full _ rfl _ _ 25 rfl w.heap.size 73 i0 (.int .u32 0) 1 Try.underlying25 hi hz0 hz1 .i64 .i64 _ _ (A.length + 1) rfl rfl (by omega) (by omega) (by rw [hz2]; omega) (by unfold maxLen; omega) (by simp) ?_); intro w1 hown hgrow; rw [made32] at hown; obtain ⟨hrow, _⟩ := rowAt_of_own hown; have hb1 : Below w.heap.size w w1 := (Below.refl _ _).grown hgrow (Nat.le_refl _) (by simp); clear hown hgrow)
    | (with_reducible refine at_copy ?_; go_must (refine wpList_copy_splice rfl _ _ 25 25 rfl 73 Try.underlying25 Try.size32 _ _ _ _ _ _ rfl rfl w.heap.size 0 (U (List.replicate (A.length + 1) 0)) 73 hrow.heap (U A) (by rw [u_length]; exact (Nat.min_eq_left (by omega)).symm) ?_ (by rw [u_length, u_length]; simp) (u_one A) w.heap.size w hb1 (Nat.le_refl _) ?_); rotate_left; intro w2 hr2 hb2))
  · rw [splice_u _ _ (by omega)] at hr2
    have hr3 : RowAt w2 w.heap.size ([] ++ ((A ++ List.replicate (A.length + 1 - A.length) 0) ++ [])) := by rw [List.nil_append, List.append_nil]; exact hr2
    have hlen : (A ++ List.replicate (A.length + 1 - A.length) 0).length = A.length + 1 := by simp
    have hBw := hb.below hb2
    clear hr2 hrow
    refine (addInto_k w2 w.heap.size 0 (A.length + 1) (A.length + 1) [] (A ++ List.replicate (A.length + 1 - A.length) 0) [] bo cb B rfl hlen.symm hr3 (ok_append.2 ⟨ha.1, ok_replicate _⟩) (by omega) (by omega) (by omega) hBw (slAt_ne_aux hb) (by omega)).mono ?_
    rintro e w3 ⟨A', c, rfl, hr4, hl4, hok4, hv4, hc4, hg4⟩
    have HF : Hid (Made w (A.length + 1) (val A + val B) (.returned (.slice (some ⟨w.heap.size, 0, none⟩) (A.length + 1) (A.length + 1))) w3) := by
      rw [List.nil_append, List.append_nil] at hr4
      have hl5 : A'.length = A.length + 1 := by omega
      refine ⟨w.heap.size, A.length + 1, A.length + 1, A', rfl, hl5.symm, ?_, Nat.le_refl _, by omega, ?_, hb2.grown hg4 hb2.size (by intro k e; simp at e; omega)⟩
      · rw [← hl5]; exact hr4.whole hok4 (by omega)
      · rw [val_pad, hlen] at hv4
        exact no_carry ha.1 hb.1 hle hv4
    clear hr4 hl4 hok4 hv4 hc4 hg4 hBw hr3 hlen
    go_wp2
    go_ret
    exact HF.out
  · intro h0
    rcases ha.2.2.2 with ⟨_, _⟩ | ⟨b, off, rfl, hlt, hc⟩
    · simp [u_length] at h0; omega
    · exact ⟨_, rfl, SlAt.src fun i hi => (hb1.cell (p := ⟨b, off + i, none⟩) hlt).trans (hc i hi)⟩

set_option maxHeartbeats 1600000 in
theorem addLimbs_gt (w : World) (ao : Option Addr) (ca : Nat) (A : List Nat) (bo : Option Addr) (cb : Nat) (B : List Nat) (ha : SlAt w ao ca A) (hb : SlAt w bo cb B) (hN : B.length ≤ 1000000) (hlt' : A.length < B.length) :
    Calls Try.prog 110 #[.slice ao A.length ca, .slice bo B.length cb] w (Made w (B.length + 1) (val B + val A)) := by
  have hca := ha.2.2.1
  have hcb := hb.2.2.1
  unfold maxLen at hca hcb
  have hla := ha.2.1
  have hlb := hb.2.1
  have hle : A.length ≤ B.length := by omega
  obtain ⟨i0, hi, hz0, hz1, hz2⟩ := info_parts Try.info32
  go_enter Try.func110, Try.ntmps110
  go_wp2_with (first
    | (at_make; go_must (refine wpList_make_full _ rfl _ _ 25 rfl w.heap.size 73 i0 (.int .u32 0) 1 Try.underlying25 hi hz0 hz1 .i64 .i64 _ _ (B.length + 1) rfl rfl (by omega) (by omega) (by rw [hz2]; omega) (by unfold maxLen; omega) (by simp) ?_); intro w1 hown hgrow; rw [made32] at hown; obtain ⟨hrow, _⟩ := rowAt_of_own hown; have hb1 : Below w.heap.size w w1 := (Below.refl _ _).grown hgrow (Nat.le_refl _) (by simp); clear hown hgrow)
    | (with_reducible refine at_copy ?_; go_must (refine wpList_copy_splice rfl _ _ 25 25 rfl 73 Try.underlying25 Try.size32 _ _ _ _ _ _ rfl rfl w.heap.size 0 (U (List.replicate (B.length + 1) 0)) 73 hrow.heap (U B) (by rw [u_length]; exact (Nat.min_eq_left (by omega)).symm) ?_ (by rw [u_length, u_length]; simp) (u_one B) w.heap.size w hb1 (Nat.le_refl _) ?_); rotate_left; intro w2 hr2 hb2))
  · rw [splice_u _ _ (by omega)] at hr2
    have hr3 : RowAt w2 w.heap.size ([] ++ ((B ++ List.replicate (B.length + 1 - B.length) 0) ++ [])) := by rw [List.nil_append, List.append_nil]; exact hr2
    have hlen : (B ++ List.replicate (B.length + 1 - B.length) 0).length = B.length + 1 := by simp
    have hBw := ha.below hb2
    clear hr2 hrow
    refine (addInto_k w2 w.heap.size 0 (B.length + 1) (B.length + 1) [] (B ++ List.replicate (B.length + 1 - B.length) 0) [] ao ca A rfl hlen.symm hr3 (ok_append.2 ⟨hb.1, ok_replicate _⟩) (by omega) (by omega) (by omega) hBw (slAt_ne_aux ha) (by omega)).mono ?_
    rintro e w3 ⟨A', c, rfl, hr4, hl4, hok4, hv4, hc4, hg4⟩
    have HF : Hid (Made w (B.length + 1) (val B + val A) (.returned (.slice (some ⟨w.heap.size, 0, none⟩) (B.length + 1) (B.length + 1))) w3) := by
      rw [List.nil_append, List.append_nil] at hr4
      have hl5 : A'.length = B.length + 1 := by omega
      refine ⟨w.heap.size, B.length + 1, B.length + 1, A', rfl, hl5.symm, ?_, Nat.le_refl _, by omega, ?_, hb2.grown hg4 hb2.size (by intro k e; simp at e; omega)⟩
      · rw [← hl5]; exact hr4.whole hok4 (by omega)
      · rw [val_pad, hlen] at hv4
        exact no_carry hb.1 ha.1 hle hv4
    clear hr4 hl4 hok4 hv4 hc4 hg4 hBw hr3 hlen
    go_wp2
    go_ret
    exact HF.out
  · intro h0
    rcases hb.2.2.2 with ⟨_, _⟩ | ⟨b, off, rfl, hlt, hc⟩
    · simp [u_length] at h0; omega
    · exact ⟨_, rfl, SlAt.src fun i hi => (hb1.cell (p := ⟨b, off + i, none⟩) hlt).trans (hc i hi)⟩

theorem addLimbs_any (w : World) (ao : Option Addr) (ca : Nat) (A : List Nat) (bo : Option Addr) (cb : Nat) (B : List Nat) (ha : SlAt w ao ca A) (hb : SlAt w bo cb B) (hN : A.length ≤ 1000000) (hM : B.length ≤ 1000000) :
    Calls Try.prog 110 #[.slice ao A.length ca, .slice bo B.length cb] w (Made w (A.length + B.length + 1) (val A + val B)) := by
  by_cases h : B.length ≤ A.length
  · refine (addLimbs_le w ao ca A bo cb B ha hb hN h).mono ?_
    rintro e w' ⟨g, cap, k, l, h1, h2, h3, h4, h5, h6, h7⟩
    exact ⟨g, cap, k, l, h1, h2, h3, h4, by omega, h6, h7⟩
  · refine (addLimbs_gt w ao ca A bo cb B ha hb hM (by omega)).mono ?_
    rintro e w' ⟨g, cap, k, l, h1, h2, h3, h4, h5, h6, h7⟩
    exact ⟨g, cap, k, l, h1, h2, h3, h4, by omega, by omega, h7⟩

set_option maxHeartbeats 1600000 in
theorem subLimbs_any (w : World) (ao : Option Addr) (ca : Nat) (A : List Nat) (bo : Option Addr) (cb : Nat) (B : List Nat) (ha : SlAt w ao ca A) (hb : SlAt w bo cb B) (hN : A.length ≤ 1000000) (hle : B.length ≤ A.length) (hv : val B ≤ val A) :
    Calls Try.prog 111 #[.slice ao A.length ca, .slice bo B.length cb] w (Made w A.length (val A - val B)) := by
  have hca := ha.2.2.1
  have hcb := hb.2.2.1
  unfold maxLen at hca hcb
  have hla := ha.2.1
  have hlb := hb.2.1
  have HV := hid hv
  clear hv
  go_enter Try.func111, Try.ntmps111
  go_wp2_with fail
  refine (copied_any _ ao ca A ha hN).mono ?_
  rintro e w1 ⟨rfl, hr, hb1⟩
  have hr2 : RowAt w1 w.heap.size ([] ++ (A ++ [])) := by rw [List.nil_append, List.append_nil]; exact hr
  go_wp2_with fail
  refine (subFrom_k w1 w.heap.size 0 A.length A.length [] A [] bo cb B rfl rfl hr2 ha.1 (by omega) (Nat.le_refl _) (by omega) (hb.below hb1) (slAt_ne_aux hb) hle).mono ?_
  rintro e w3 ⟨A', c, rfl, hr4, hl4, hok4, hv4, hc4, hg4⟩
  have HF : Hid (Made w A.length (val A - val B) (.returned (.slice (some ⟨w.heap.size, 0, none⟩) A.length A.length)) w3) := by
    rw [List.nil_append, List.append_nil] at hr4
    refine ⟨w.heap.size, A.length, A.length, A', rfl, hl4.symm, ?_, Nat.le_refl _, by omega, ?_, hb1.grown hg4 hb1.size (by intro k e; simp at e; omega)⟩
    · rw [← hl4]; exact hr4.whole hok4 (by omega)
    · exact no_borrow hok4 hl4 HV.out hv4
  clear hr4 hl4 hok4 hv4 hc4 hg4 hr2 hr
  go_wp2
  go_ret
  exact HF.out

end Go.Proofs.Ytalblhcfkfockaa
