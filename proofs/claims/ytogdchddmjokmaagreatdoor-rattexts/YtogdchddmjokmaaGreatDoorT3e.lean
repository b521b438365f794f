/-
  Walks: the document's own number of a text (all).
-/
import Derived.Test.YtogdchddmjokmaaGreatDoorT3
import Derived.Test.YtogdchddmjokmaaGreatDoorT3a
import Derived.Test.YtogdchddmjokmaaGreatDoorT3b
import Derived.Test.YtogdchddmjokmaaGreatDoorT3c
import Derived.Test.YtogdchddmjokmaaGreatDoorT3d
namespace Go.Proofs.YtogdchddmjokmaaGreatDoor
open Go.RowKit Lm
set_option linter.unusedSimpArgs false
set_option linter.unusedVariables false
set_option maxRecDepth 100000


set_option maxHeartbeats 6400000 in
theorem rread_e (w : World) (s : ByteArray) (hs : s.size ≤ 5000) (hp0 : 0 < s.size) (hneg : isNeg (lst s) = false) (h0 : (cutV s).toList = []) :
    Calls Tryz.prog 18 #[.string s] w (RdPost w s) := by
  have hW0 : Below w.heap.size w (w.alloc (.cells #[.bool false, .slice none 0 0] 24)) := (by repeat (first | exact Below.refl _ _ | refine Below.alloc ?_ ?_ _ | refine Below.setCell ?_ ?_ _ | refine Below.drew ?_ | refine below_drewN ?_ _ | (· simp) | omega | (· simp; omega) | exact Below.size (by assumption) | assumption | refine below_call ?_ (by assumption) ?_))
  have HW0 := hid hW0
  have bX : Box (w.alloc (.cells #[.bool false, .slice none 0 0] 24)) w.heap.size (.bool false) (.slice none 0 0) := Box.new w (.bool false) (.slice none 0 0) w.heap.size rfl
  have x0 := bX.c0
  have x1 := bX.c1
  have xf := bX.f
  have xl := bX.lt
  clear hW0
  have hpi : (0 : Int) < (s.size : Int) := by omega
  have HD0 := hid (lst_cut s)
  have hds0 := cut_size s
  have HNEG := hid hneg
  have hm : ¬ s[0].toNat = 45 := by
    have h3 := HNEG.out
    rw [isNeg, head_at s hp0] at h3
    simpa using h3
  clear hneg
  go_enter Tryz.func18, Tryz.ntmps18
  go_upto_if 17 with fail
  go_cut [4, 5] from 8 (fun nv dv wc => nv = .bool false ∧ dv = .string (cutV s) ∧ wc = w.alloc (.cells #[.bool false, .slice none 0 0] 24))
  case first =>
    have hmi : ¬ (s[0].toNat : Int) = 45 := by omega
    have hmb : ((s[0].toNat : Int) == 45) = false := by simp; omega
    clear hm
    go_wp2
    go_meet
    exact ⟨by rw [hmb], by rw [cutV, HNEG.out]; rfl, rfl⟩
  case rest =>
    obtain ⟨rfl, rfl, rfl⟩ := hcut
    have HD : Hid (lst (cutV s) = bodyOf (lst s)) := HD0
    have hds : (cutV s).size ≤ 5000 := by omega
    have hds2 : (cutV s).size ≤ s.size := hds0
    clear HD0 hds0 hm
    generalize cutV s = d at *
    generalize w.alloc (.cells #[.bool false, .slice none 0 0] 24) = W0 at *
    have h0l : lst d = [] := lst_nil h0
    have HF : Hid (¬ mayRead (lst s)) := hid (fun h => h.1.1 (by rw [← HD.out]; exact h0l))
    go_wp2
    refine bodyPost_ret (v := .tuple #[.agg #[.bool false, .slice none 0 0], .bool false]) ?_ rfl (.inl ⟨HF.out, rfl, (HW0.out.setCell (Nat.le_refl _) _).setCell (Nat.le_refl _) _⟩)
    simp [results, Tryz.results18, go_sem, x0, x1]

set_option maxHeartbeats 6400000 in
theorem rread_f (w : World) (s : ByteArray) (hs : s.size ≤ 5000) (hp0 : 0 < s.size) (hneg : isNeg (lst s) = true) (h0 : (cutV s).toList = []) :
    Calls Tryz.prog 18 #[.string s] w (RdPost w s) := by
  have hW0 : Below w.heap.size w (w.alloc (.cells #[.bool false, .slice none 0 0] 24)) := (by repeat (first | exact Below.refl _ _ | refine Below.alloc ?_ ?_ _ | refine Below.setCell ?_ ?_ _ | refine Below.drew ?_ | refine below_drewN ?_ _ | (· simp) | omega | (· simp; omega) | exact Below.size (by assumption) | assumption | refine below_call ?_ (by assumption) ?_))
  have HW0 := hid hW0
  have bX : Box (w.alloc (.cells #[.bool false, .slice none 0 0] 24)) w.heap.size (.bool false) (.slice none 0 0) := Box.new w (.bool false) (.slice none 0 0) w.heap.size rfl
  have x0 := bX.c0
  have x1 := bX.c1
  have xf := bX.f
  have xl := bX.lt
  clear hW0
  have hpi : (0 : Int) < (s.size : Int) := by omega
  have HD0 := hid (lst_cut s)
  have hds0 := cut_size s
  have HNEG := hid hneg
  have hm : s[0].toNat = 45 := by
    have h3 := HNEG.out
    rw [isNeg, head_at s hp0] at h3
    simpa using h3
  clear hneg
  go_enter Tryz.func18, Tryz.ntmps18
  go_upto_if 17 with fail
  go_cut [4, 5] from 8 (fun nv dv wc => nv = .bool true ∧ dv = .string (cutV s) ∧ wc = w.alloc (.cells #[.bool false, .slice none 0 0] 24))
  case first =>
    have hmi : (s[0].toNat : Int) = 45 := by omega
    have hmb : ((s[0].toNat : Int) == 45) = true := by simp; omega
    clear hm
    go_wp2
    go_meet
    exact ⟨rfl, by rw [cutV, HNEG.out]; rfl, rfl⟩
  case rest =>
    obtain ⟨rfl, rfl, rfl⟩ := hcut
    have HD : Hid (lst (cutV s) = bodyOf (lst s)) := HD0
    have hds : (cutV s).size ≤ 5000 := by omega
    have hds2 : (cutV s).size ≤ s.size := hds0
    clear HD0 hds0 hm
    generalize cutV s = d at *
    generalize w.alloc (.cells #[.bool false, .slice none 0 0] 24) = W0 at *
    have h0l : lst d = [] := lst_nil h0
    have HF : Hid (¬ mayRead (lst s)) := hid (fun h => h.1.1 (by rw [← HD.out]; exact h0l))
    go_wp2
    refine bodyPost_ret (v := .tuple #[.agg #[.bool false, .slice none 0 0], .bool false]) ?_ rfl (.inl ⟨HF.out, rfl, (HW0.out.setCell (Nat.le_refl _) _).setCell (Nat.le_refl _) _⟩)
    simp [results, Tryz.results18, go_sem, x0, x1]

theorem rread_any (w : World) (s : ByteArray) (hs : s.size ≤ 5000) :
    Calls Tryz.prog 18 #[.string s] w (RdPost w s) := by
  by_cases hp0 : 0 < s.size
  · by_cases h0 : (cutV s).toList = []
    · cases hn : isNeg (lst s)
      · exact rread_e w s hs hp0 hn h0
      · exact rread_f w s hs hp0 hn h0
    · by_cases h1 : 1 < (cutV s).size
      · cases hn : isNeg (lst s)
        · exact rread_a w s hs hp0 hn h0 h1
        · exact rread_c w s hs hp0 hn h0 h1
      · cases hn : isNeg (lst s)
        · exact rread_b w s hs hp0 hn h0 h1
        · exact rread_d w s hs hp0 hn h0 h1
  · have hW0 : Below w.heap.size w (w.alloc (.cells #[.bool false, .slice none 0 0] 24)) := (by repeat (first | exact Below.refl _ _ | refine Below.alloc ?_ ?_ _ | refine Below.setCell ?_ ?_ _ | refine Below.drew ?_ | refine below_drewN ?_ _ | (· simp) | omega | (· simp; omega) | exact Below.size (by assumption) | assumption | refine below_call ?_ (by assumption) ?_))
    have HW0 := hid hW0
    have bX : Box (w.alloc (.cells #[.bool false, .slice none 0 0] 24)) w.heap.size (.bool false) (.slice none 0 0) := Box.new w (.bool false) (.slice none 0 0) w.heap.size rfl
    have x0 := bX.c0
    have x1 := bX.c1
    have xf := bX.f
    have xl := bX.lt
    clear hW0
    have hpi : ¬ (0 : Int) < (s.size : Int) := by omega
    have h0 : s.toList = [] := List.eq_nil_of_length_eq_zero (by rw [toList_len]; omega)
    have he : s.toList.isEmpty = true := by rw [h0]; rfl
    have HF : Hid (¬ mayRead (lst s)) := hid (fun h => h.1.1 (by rw [lst_nil h0]; rfl))
    go_enter Tryz.func18, Tryz.ntmps18
    go_wp2
    refine bodyPost_ret (v := .tuple #[.agg #[.bool false, .slice none 0 0], .bool false]) ?_ rfl (.inl ⟨HF.out, rfl, HW0.out⟩)
    simp [results, Tryz.results18, go_sem, x0, x1]

end Go.Proofs.YtogdchddmjokmaaGreatDoor
