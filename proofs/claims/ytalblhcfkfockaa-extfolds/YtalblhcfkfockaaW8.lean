/-
  Walks: quotients by one limb; Div over what is known of divLimbs.
-/
import Derived.Test.YtalblhcfkfockaaW7
import Derived.Deep.RegionWith
namespace Go.Proofs.Ytalblhcfkfockaa
open Go.RowKit Lm
set_option linter.unusedSimpArgs false
set_option linter.unusedVariables false
set_option maxRecDepth 100000

/-- What divLimbs tells. -/
def DivPost (W : World) (la lb : List Nat) (e : Ending) (w' : World) : Prop :=
  ∃ qa qn qc ra rn rc q r, e = .returned (.tuple #[.slice qa qn qc, .slice ra rn rc]) ∧ qn = q.length ∧ rn = r.length ∧ SlAt w' qa qc q ∧ From W.heap.size qa ∧ SlAt w' ra rc r ∧ From W.heap.size ra ∧
    val la = val q * val lb + val r ∧ val r < val lb ∧ q.length ≤ la.length ∧ r.length ≤ la.length + lb.length ∧ Below W.heap.size W w'

/-- What is known of divLimbs: of limbs up to so many by limbs up to so many. -/
def DivSaid (N M : Nat) : Prop := ∀ (W : World) (ao : Option Addr) (ca : Nat) (la : List Nat) (bo : Option Addr) (cb : Nat) (lb : List Nat), SlAt W ao ca la → SlAt W bo cb lb → canon la → canon lb → lb.length ≠ 0 → la.length ≤ N → lb.length ≤ M →
  Calls Try.prog 106 #[.slice ao la.length ca, .slice bo lb.length cb] W (DivPost W la lb)

set_option maxHeartbeats 800000 in
theorem divLimbs_less (W : World) (ao : Option Addr) (ca : Nat) (la : List Nat) (bo : Option Addr) (cb : Nat) (lb : List Nat) (ha : SlAt W ao ca la) (hb : SlAt W bo cb lb) (hcb : canon lb) (hN : la.length ≤ 1000000) (hlt : la.length < lb.length) :
    Calls Try.prog 106 #[.slice ao la.length ca, .slice bo lb.length cb] W (DivPost W la lb) := by
  have hca := ha.2.2.1
  have hcb2 := hb.2.2.1
  have hla := ha.2.1
  have hlb := hb.2.1
  unfold maxLen at hca hcb2
  have HV := hid (val_len_lt ha.1 hcb hlt)
  go_enter Try.func106, Try.ntmps106
  go_wp2_with fail
  refine (copied_any _ ao ca la ha hN).mono ?_
  rintro e w1 ⟨rfl, hr, hb1⟩
  go_wp2
  go_ret2
  exact ⟨none, 0, 0, some ⟨W.heap.size, 0, none⟩, la.length, la.length, [], la, rfl, rfl, rfl, ⟨ok_nil, by simp, by unfold maxLen; omega, .inl ⟨rfl, fun _ => rfl⟩⟩, (by intro ad e; simp at e), hr.whole ha.1 (by omega), from_row _ _ _ (Nat.le_refl _), by simp [val], HV.out, by simp, by omega, hb1⟩

set_option maxHeartbeats 800000 in
theorem divLimbs_one (W : World) (ao : Option Addr) (ca : Nat) (la : List Nat) (bo : Option Addr) (cb : Nat) (lb : List Nat) (ha : SlAt W ao ca la) (hb : SlAt W bo cb lb) (hcb : canon lb) (hN : la.length ≤ 1000000) (hlt : ¬ la.length < lb.length) (h1 : lb.length = 1) :
    Calls Try.prog 106 #[.slice ao la.length ca, .slice bo lb.length cb] W (DivPost W la lb) := by
  have hca := ha.2.2.1
  have hcb2 := hb.2.2.1
  have hla := ha.2.1
  have hlb := hb.2.1
  unfold maxLen at hca hcb2
  obtain ⟨d, rfl⟩ : ∃ d, lb = [d] := by
    match lb, h1 with
    | [d], _ => exact ⟨d, rfl⟩
  have hd0 : 0 < d := by simp [canon] at hcb; omega
  have hd : d < 4294967296 := (ok_cons.1 hb.1).1
  rcases hb.2.2.2 with ⟨h', _⟩ | ⟨b, off, rfl, hltb, hc⟩
  · simp at h'
  have hcell : W.cell? ⟨b, off, none⟩ = some (.int .u32 (d : Int)) := by have := hc 0 (by simp); simpa using this
  simp only [List.length_cons, List.length_nil, Nat.zero_add] at hlt hlb ⊢
  clear hc h1
  go_enter Try.func106, Try.ntmps106
  go_wp2_with fail
  refine (copied_any _ ao ca la ha hN).mono ?_
  rintro e w1 ⟨rfl, hr, hb1⟩
  have hcell1 : w1.cell? ⟨b, off, none⟩ = some (.int .u32 (d : Int)) := (hb1.cell (p := ⟨b, off, none⟩) hltb).trans hcell
  go_wp2_with fail
  refine (divInto_any _ W.heap.size la.length la [] d (by rw [List.append_nil]; exact hr) ha.1 hN (Nat.le_refl _) hd0 hd _ rfl).mono ?_
  rintro e w2 ⟨A, r, rfl, hr2, hl2, hok2, hv, hrd, hg⟩
  rw [List.append_nil] at hr2
  have HV := hid hv
  have HL := hid hl2
  have hb2 : Below W.heap.size W w2 := hb1.grown hg hb1.size (by intro k e; simp at e; omega)
  clear hv hl2 hg hr hb1
  go_wp2
  go_ret2
  have h3 : RowAt (w2.alloc (.cells #[.int .u32 (r : Int)] 73)) w2.heap.size [r] := by
    unfold RowAt; rw [heap_alloc_new]; simp [U]
  refine ⟨some ⟨W.heap.size, 0, none⟩, la.length, la.length, some ⟨w2.heap.size, 0, none⟩, 1, 1, A, [r], rfl, HL.out.symm, rfl, ?_, from_row _ _ _ (Nat.le_refl _), h3.whole (by rw [ok_cons]; exact ⟨by omega, ok_nil⟩) (by simp), from_row _ _ _ hb2.size, by simp [val]; exact HV.out, by simp [val]; exact hrd, by rw [HL.out]; exact Nat.le_refl _, by simp, (by repeat (first | exact Below.refl _ _ | refine Below.alloc ?_ ?_ _ | refine Below.setCell ?_ ?_ _ | refine Below.drew ?_ | refine below_drewN ?_ _ | (· simp) | omega | (· simp; omega) | exact Below.size (by assumption) | assumption | refine below_call ?_ (by assumption) ?_))⟩
  rw [← HL.out]
  exact (hr2.whole hok2 (by rw [HL.out]; omega)).alloc _

theorem divSaid_one : DivSaid 1000000 1 := by
  intro W ao ca la bo cb lb ha hb hca hcb hne hN hM
  by_cases hlt : la.length < lb.length
  · exact divLimbs_less W ao ca la bo cb lb ha hb hcb hN hlt
  · exact divLimbs_one W ao ca la bo cb lb ha hb hcb hN hlt (by omega)

/-- What Div has laid. -/
def Laid4 (w : World) (n1 : Bool) (s1 : Value) (n2 : Bool) (s2 : Value) : World :=
  (((w.alloc (.cells #[.bool n1, s1] 27)).alloc (.cells #[.bool n2, s2] 27)).alloc (.cells #[.bool false, .slice none 0 0] 27)).alloc (.cells #[.bool false, .slice none 0 0] 27)
theorem laid4 (w : World) (n1 : Bool) (s1 : Value) (n2 : Bool) (s2 : Value) : (Laid4 w n1 s1 n2 s2).heap.size = w.heap.size + 4 ∧ Box (Laid4 w n1 s1 n2 s2) w.heap.size (.bool n1) s1 ∧ Box (Laid4 w n1 s1 n2 s2) (w.heap.size + 1) (.bool n2) s2 ∧
    (∀ b, w.heap.size + 1 < b → b < w.heap.size + 4 → Box (Laid4 w n1 s1 n2 s2) b (.bool false) (.slice none 0 0)) ∧ Below w.heap.size w (Laid4 w n1 s1 n2 s2) := by
  unfold Laid4
  refine ⟨by simp, ?_, ?_, fun b h1 h2 => ?_, (by repeat (first | exact Below.refl _ _ | refine Below.alloc ?_ ?_ _ | refine Below.setCell ?_ ?_ _ | refine Below.drew ?_ | refine below_drewN ?_ _ | (· simp) | omega | (· simp; omega) | exact Below.size (by assumption) | assumption | refine below_call ?_ (by assumption) ?_))⟩
  · exact (((Box.new w _ _ _ rfl).alloc _).alloc _).alloc _
  · exact ((Box.new _ _ _ _ (by simp)).alloc _).alloc _
  · rcases (show b = w.heap.size + 2 ∨ b = w.heap.size + 3 by omega) with rfl | rfl
    · exact (Box.new _ _ _ _ (by simp)).alloc _
    · exact Box.new _ _ _ _ (by simp)

set_option maxHeartbeats 1600000 in
theorem div_zero (w : World) (u v : Value) (n m : Nat) (x y : Int) (hx : Arg w u n x) (hy : Arg w v m y) (hy0 : y = 0) :
    Calls Try.prog 103 #[u, v] w fun e w' => e = .returned (.tuple #[.agg #[.bool false, .slice none 0 0], .agg #[.bool false, .slice none 0 0], .int .i64 1]) ∧ Below w.heap.size w w' := by
  have HX := hid hx
  have HY := hid hy
  have HY0 := hid hy0
  clear hy0
  obtain ⟨n1, s1, l1, rfl, -⟩ := hx
  obtain ⟨n2, s2, l2, rfl, -⟩ := hy
  go_enter Try.func103, Try.ntmps103
  go_wp2
  go_cut [] (fun wc => ∃ neg1 ao1 cap1 l1 neg2 ao2 cap2 l2, Boxed2 w (w.heap.size + 4) n m x y wc neg1 ao1 cap1 l1 neg2 ao2 cap2 l2)
  case first =>
    go_region_with (first | (go_at_call_of 63 (Value.agg #[Value.bool n1, s1]); refine (counted_h w _ _ n x HX.out ?_).mono ?_; (exact (by repeat (first | exact Below.refl _ _ | refine Below.alloc ?_ ?_ _ | refine Below.setCell ?_ ?_ _ | refine Below.drew ?_ | refine below_drewN ?_ _ | (· simp) | omega | (· simp; omega) | exact Below.size (by assumption) | assumption | refine below_call ?_ (by assumption) ?_))); rintro e w1 ⟨neg1, ao1, cap1, k1, l1, rfl, HK1, HC1, hb1⟩; obtain ⟨hc1, hf1⟩ := bcell hb1; simp only [asize, dsize] at hc1 hf1) | (go_at_call_of 63 (Value.agg #[Value.bool n2, s2]); refine (counted_h w _ _ m y HY.out ?_).mono ?_; (exact (by repeat (first | exact Below.refl _ _ | refine Below.alloc ?_ ?_ _ | refine Below.setCell ?_ ?_ _ | refine Below.drew ?_ | refine below_drewN ?_ _ | (· simp) | omega | (· simp; omega) | exact Below.size (by assumption) | assumption | refine below_call ?_ (by assumption) ?_))); rintro e w2 ⟨neg2, ao2, cap2, k2, l2, rfl, HK2, HC2, hb2⟩; have hW2 := below_call hb1 hb2 hb1.size; obtain ⟨hc2, hf2⟩ := bcell hW2; simp only [asize, dsize] at hc2 hf2))
    all_goals (go_wp2_with fail; go_meet; exact ⟨neg1, ao1, cap1, _, neg2, ao2, cap2, _, boxed2_mk HK1 HC1 HK2 HC2 (laid4 w n1 s1 n2 s2).1 (laid4 w n1 s1 n2 s2).2.1 (laid4 w n1 s1 n2 s2).2.2.1 (laid4 w n1 s1 n2 s2).2.2.2.1 (laid4 w n1 s1 n2 s2).2.2.2.2 (below_undrew hW2)⟩)
  case rest =>
    obtain ⟨neg1, ao1, cap1, l1, neg2, ao2, cap2, l2, HB⟩ := hcut
    have hk2 : l2.length = 0 := by
      have h1 := HB.c2.2.2.2
      rw [HY0.out] at h1
      have h2 : val l2 = 0 := by have := sgn_abs neg2 (val l2); omega
      rw [val_eq_zero (may_canon HB.c2.2.2.1) h2]; rfl
    have hb1 := HB.b2.c1
    rw [hk2] at hb1
    have r0 := HB.rs (w.heap.size + 1 + 1) (by omega) (by omega)
    have r1 := HB.rs (w.heap.size + 1 + 1 + 1) (by omega) (by omega)
    have r00 := r0.c0
    have r01 := r0.c1
    have r0f := r0.f
    have r10 := r1.c0
    have r11 := r1.c1
    have r1f := r1.f
    have hbl := HB.bl
    clear HB hk2
    go_wp2
    refine bodyPost_ret (v := .tuple #[.agg #[.bool false, .slice none 0 0], .agg #[.bool false, .slice none 0 0], .int .i64 1]) ?_ rfl ⟨rfl, ?_⟩
    · simp [results, Try.results103, go_sem, r00, r01, r10, r11]
    · exact (by repeat (first | exact Below.refl _ _ | refine Below.alloc ?_ ?_ _ | refine Below.setCell ?_ ?_ _ | refine Below.drew ?_ | refine below_drewN ?_ _ | (· simp) | omega | (· simp; omega) | exact Below.size (by assumption) | assumption | refine below_call ?_ (by assumption) ?_))

end Go.Proofs.Ytalblhcfkfockaa
