/-
  Rows of whole numbers: the law's own.
-/
import Derived.Test.YtmnlggmdomcajaaGreatL17
namespace Go.Proofs.YtmnlggmdomcajaaGreat
open Go.RowKit Lm
set_option linter.unusedSimpArgs false
set_option linter.unusedVariables false
set_option maxRecDepth 100000

/-- The quotients of whole numbers. -/
def ratsOf (zs : List Int) : List Rat := zs.map (fun (z : Int) => (z : Rat))
theorem ratsOf_len (zs : List Int) : (ratsOf zs).length = zs.length := by unfold ratsOf; rw [List.length_map]
/-- int64s in the heap. -/
def ZRow (w : World) (b o : Nat) (zs : List Int) : Prop := b < w.heap.size ∧ ∀ i (h : i < zs.length), w.cell? ⟨b, o + i, none⟩ = some (.int .i64 zs[i])
theorem ZRow.below {w w' : World} {b o : Nat} {zs : List Int} (h : ZRow w b o zs) (hb : Below w.heap.size w w') : ZRow w' b o zs :=
  ⟨Nat.lt_of_lt_of_le h.1 hb.size, fun i hi => (bcells hb _ _ h.1).trans (h.2 i hi)⟩
def RowSay (w : World) (k : Nat) (zs : List Int) (e : Ending) (w' : World) : Prop := ∃ ro rc, e = .returned (.slice ro k rc) ∧ OwnIs w' w.heap.size (.slice ro k rc) 6 (ratsOf zs) ∧ Below w.heap.size w w'

set_option maxHeartbeats 1600000 in
theorem row5_any (w : World) (b o k cap : Nat) (zs : List Int) (hk : k = zs.length) (hk2 : k ≤ 100) (hr : ∀ z ∈ zs, -9223372036854775808 ≤ z ∧ z ≤ 9223372036854775807) (hc : ZRow w b o zs) :
    Calls Tryz.prog 36 #[.slice (some ⟨b, o, none⟩) k cap] w (RowSay w k zs) := by
  have HZ := hid hc
  have HK := hid hk
  have HR := hid hr
  clear hk hc hr
  go_enter Tryz.func36, Tryz.ntmps36
  go_wp2
  go_loopw [3, 4] (fun ov iv wr => ∃ i : Nat, i ≤ k ∧ iv = .int .i64 i ∧ OwnIs wr w.heap.size ov 6 (ratsOf (zs.take i)) ∧ Below w.heap.size w wr) (fun ov iv wr => k - (intOf iv).toNat)
  case atStart => exact ⟨0, Nat.zero_le _, rfl, by simpa [ratsOf] using ownIs_nil _ _ _, Below.refl _ _⟩
  case round =>
    obtain ⟨i, hik, rfl, hO, HBW⟩ := hrel
    by_cases hlt : i < k
    · have hi' : i < zs.length := by rw [← HK.out]; exact hlt
      obtain ⟨ov1, ov2, rfl⟩ := hO.shape
      have hcell := (HZ.out.below HBW).2 i hi'
      have hbl := (HZ.out.below HBW).1
      obtain ⟨hz1, hz2⟩ := HR.out zs[i] (List.getElem_mem hi')
      have HR0 : Hid ((ratsOf (zs.take i)).length ≤ 1000) := hid (by rw [ratsOf_len, List.length_take]; omega)
      have HE : Hid (ratsOf (zs.take (i + 1)) = ratsOf (zs.take i) ++ [((zs[i] : Int) : Rat)]) := hid (by unfold ratsOf; rw [List.take_succ_eq_append_getElem hi', List.map_append]; rfl)
      generalize ratsOf (zs.take i) = R0 at *
      generalize zs[i] = z at *
      go_wp2_with fail
      refine (ofRat_any _ z hz1 hz2).mono ?_
      rintro e w2 ⟨n1, a1, k1, c1, n2, a2, k2, c2, rfl, hI, hb⟩
      have hA2 : Below w2.heap.size w2 (w2.alloc (.cells #[.bool n1, .slice a1 k1 c1, .bool n2, .slice a2 k2 c2] 26)) := (by repeat (first | exact Below.refl _ _ | refine Below.alloc ?_ ?_ _ | refine Below.setCell ?_ ?_ _ | refine Below.drew ?_ | refine below_drewN ?_ _ | (· simp) | omega | (· simp; omega) | exact Below.size (by assumption) | assumption | refine below_call ?_ (by assumption) ?_))
      have HO2 := hid ((hO.below hb).below hA2)
      have HB2 := below_call (below_call HBW hb HBW.size) hA2 (below_call HBW hb HBW.size).size
      have HI2 := hid ((hI.below hA2).mono (Nat.le_refl _) (show 2 ≤ 6 by omega))
      have bN : Box4 (w2.alloc (.cells #[.bool n1, .slice a1 k1 c1, .bool n2, .slice a2 k2 c2] 26)) w2.heap.size (.bool n1) (.slice a1 k1 c1) (.bool n2) (.slice a2 k2 c2) := Box4.new _ _ _ _ _ _ rfl
      clear hI hb hO HBW hA2 hcell hbl
      go_wp2_with (at_builtin; go_must (refine wpList_append_is rfl _ _ rfl w.heap.size _ 6 R0 (z : Rat) rfl HO2.out w2.heap.size n1 n2 a1 a2 k1 c1 k2 c2 rfl bN (HI2.out.mono (Nat.zero_le _) (Nat.le_refl _)) HR0.out HB2.size ?_); intro ro rc w6 hN hB6)
      have HN := hid hN
      have HB6 := hid (hB6 _ _ (Nat.le_refl _) HB2)
      clear hN hB6 HB2 bN HO2 HI2
      go_wp2
      go_roundw
      case rel => exact ⟨i + 1, by omega, by go_num, by rw [HE.out]; exact HN.out, HB6.out⟩
      case measure => simp [intOf]; omega
    · have hke : i = k := by omega
      subst hke
      have HE : Hid (ratsOf (zs.take i) = ratsOf zs) := hid (by rw [List.take_of_length_le (by have := HK.out; omega)])
      obtain ⟨ov1, ov2, rfl⟩ := hO.shape
      have HL : Hid ((ratsOf (zs.take i)).length = i) := hid (by rw [HE.out, ratsOf_len]; exact HK.out.symm)
      have HO := hid hO
      have HB := hid HBW
      clear hO HBW
      generalize hn : (ratsOf (zs.take i)).length = n at *
      have hn2 : n = i := HL.out
      subst hn2
      go_wp2
      go_ret
      exact ⟨ov1, ov2, rfl, by rw [← HE.out]; exact HO.out, HB.out⟩
theorem OwnIs.qsl {w : World} {base n : Nat} {v : Value} {R : List Rat} (h : OwnIs w base v n R) : QSl w v n R := by
  obtain ⟨ao, cap, rfl, hq⟩ := h.qis
  exact hq.sl

end Go.Proofs.YtmnlggmdomcajaaGreat
