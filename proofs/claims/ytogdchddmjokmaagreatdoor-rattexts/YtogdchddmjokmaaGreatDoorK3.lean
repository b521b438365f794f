/-
  Walks: the pieces of a text.
-/
import Derived.Test.YtogdchddmjokmaaGreatDoorK2
import Derived.Laws.OwnMore
namespace Go.Proofs.YtogdchddmjokmaaGreatDoor
open Go.RowKit Lm
set_option linter.unusedSimpArgs false
set_option linter.unusedVariables false
set_option maxRecDepth 100000

theorem Tryz.infoStr : (Tryz.prog.info? 9).map (fun i => (i.zero, i.size, i.bytes)) = some (some (.string ⟨#[]⟩), 1, 16) := by kernel_rfl

/-- A row of texts. -/
def strs (L : List ByteArray) : List Value := L.map Value.string
theorem strs_len (L : List ByteArray) : (strs L).length = L.length := by simp [strs]
theorem strs_snoc (L : List ByteArray) (s : ByteArray) : strs (L ++ [s]) = strs L ++ [.string s] := by simp [strs]
def OwnS (w : World) (base : Nat) (v : Value) (L : List ByteArray) : Prop := w.ownsRow base 9 1 v L.length (strs L)
theorem OwnS.shape {w : World} {base : Nat} {v : Value} {L : List ByteArray} (h : OwnS w base v L) (hL : 0 < L.length) : ∃ g cap, v = .slice (some ⟨g, 0, none⟩) L.length cap ∧ L.length ≤ cap ∧ cap ≤ maxLen ∧ base ≤ g ∧ g < w.heap.size ∧ ∀ j (hj : j < L.length), w.cell? ⟨g, j, none⟩ = some (.string L[j]) := by
  rcases h.2 with ⟨h', h0⟩ | ⟨g, cap, cur, rfl, hbg, hg, hnc, hcm, hcs, htake⟩
  · omega
  · refine ⟨g, cap, rfl, hnc, hcm, hbg, (Array.getElem?_eq_some_iff.1 hg).1, fun j hj => ?_⟩
    have h1 := World.ownsRow.cellAt h j (by omega)
    rw [h1]
    simp [strs, hj]

/-- The pieces have been told. -/
def PiecePost (w : World) (L : List ByteArray) (e : Ending) (w' : World) : Prop := ∃ v, e = .returned v ∧ OwnS w' w.heap.size v L ∧ Below w.heap.size w w'

set_option maxHeartbeats 1600000 in
theorem pieces_any (w : World) (s : ByteArray) (hs : s.size ≤ 20000) :
    Calls Tryz.prog 34 #[.string s] w (PiecePost w (cutsN s (s.size % 18) (s.size / 18))) := by
  obtain ⟨i0, hi, hz0, hz1, hz2⟩ := info_parts Tryz.infoStr
  obtain ⟨a, ha⟩ : ∃ a, a = s.size % 18 := ⟨_, rfl⟩
  obtain ⟨m, hm⟩ : ∃ m, m = s.size / 18 := ⟨_, rfl⟩
  have hsz : s.size = a + m * 18 := by omega
  rw [← ha, ← hm]
  have ha18 : a < 18 := by omega
  have e1 : (s.size : Int) % 18 = (a : Int) := by omega
  have e2 : (s.size : Int).tmod 18 = (a : Int) := by rw [Int.tmod_eq_emod_of_nonneg (by omega)]; exact e1
  have e3 : IntKind.i64.wrap (a : Int) = (a : Int) := by rw [IntKind.wrap_i64]; omega
  have e4 : ¬ (a : Int) < 0 := by omega
  have e5 : (a : Int) ≤ (s.size : Int) := by omega
  have e6 : IntKind.i64.wrap (s.size : Int) = (s.size : Int) := by rw [IntKind.wrap_i64]; omega
  have HSZ := hid hsz
  clear ha hm hsz
  go_enter Tryz.func34, Tryz.ntmps34
  go_wp2_with fail
  go_loopw [3, 4] (fun av lv wr => ∃ i, i ≤ m ∧ av = .int .i64 ((a + i * 18 : Nat) : Int) ∧ OwnS wr w.heap.size lv (cutsN s a i) ∧ Below w.heap.size w wr) (fun av _ _ => s.size - (intOf av).toNat)
  case atStart =>
    refine ⟨0, Nat.zero_le _, by simp, ?_, ?_⟩
    · have := World.ownsRow_lit (base := w.heap.size) (e := 9) (size := 1) w #[.string (s.extract 0 a)] 1 (Nat.le_refl _) (by unfold maxLen; omega) (by simp)
      simpa [OwnS, strs, cutsN] using this
    · exact (Below.refl _ _).alloc (Nat.le_refl _) _
  case round =>
    obtain ⟨i, hi2, rfl, hO, hbw⟩ := hrel
    by_cases hlt : i < m
    · obtain ⟨k, hk⟩ : ∃ k, k = a + i * 18 := ⟨_, rfl⟩
      have HK := hid hk
      have k0 : k + 18 ≤ s.size := by have := HSZ.out; omega
      rw [← hk]
      have k1 : (k : Int) < (s.size : Int) := by omega
      have k2 : (0 : Int) ≤ (k : Int) := by omega
      have k3 : IntKind.i64.wrap ((k : Int) + 18) = (k : Int) + 18 := by rw [IntKind.wrap_i64]; omega
      have k4 : (k : Int) + 18 ≤ (s.size : Int) := by omega
      have k5 : (k : Int) ≤ (k : Int) + 18 := by omega
      have hO2 := hid hO
      have hB2 := hid hbw
      have HN : Hid ((cutsN s a i).length ≤ 20000) := hid (by rw [cutsN_len]; omega)
      clear hO hbw hk
      go_wp2_with (at_builtin; go_must (refine wpList_append_own _ rfl _ _ 63 rfl w.heap.size 9 i0 (.string ⟨#[]⟩) 1 16 Tryz.underlying63 hi hz0 hz1 hz2 rfl (by decide) _ _ _ rfl (hO2.out.alloc _) ⟨wr.heap.size, 0, none⟩ 1 1 [.string (s.extract k (k + 18))] rfl rfl ?_ ?_ ?_ ?_ ?_ ?_))
      · intro q u hq
        match q, hq with
        | 0, hq => simp at hq; subst hq; simp [Addr.add]
        | q + 1, hq => simp at hq
      · intro u hu; simp at hu; subst hu; rfl
      · have := HN.out; unfold maxLen; omega
      · have := HN.out; omega
      · have := hB2.out.size; simp; omega
      · intro v' w5 hown5 hgrow _
        have hb5 : Below w.heap.size w w5 := (hB2.out.alloc hB2.out.size _).grown hgrow (by simp; have := hB2.out.size; omega) (fun q e => by have := (hO2.out.lt _ e).1; omega)
        have hO5 : OwnS w5 w.heap.size v' (cutsN s a (i + 1)) := by
          have e7 : s.extract k (k + 18) = cutN s a i := by rw [cutN, HK.out]
          rw [cutsN, OwnS, strs_snoc, List.length_append, ← e7]
          exact hown5
        have H5 := hid hO5
        have HB5 := hid hb5
        clear hown5 hgrow hb5 hO5
        go_wp2
        go_roundw
        case rel => exact ⟨i + 1, by omega, by rw [HK.out]; go_num, H5.out, HB5.out⟩
        case measure => simp [intOf]; omega
    · have hie : i = m := by omega
      subst hie
      rw [← HSZ.out]
      have HF : Hid (PiecePost w (cutsN s a i) (.returned u4) wr) := hid ⟨u4, rfl, hO, hbw⟩
      go_wp2
      go_ret
      exact HF.out

end Go.Proofs.YtogdchddmjokmaaGreatDoor
