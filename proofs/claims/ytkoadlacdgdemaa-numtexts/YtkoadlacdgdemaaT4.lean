/-
  The law NumTexts.
-/
import Derived.Test.YtkoadlacdgdemaaT3e
namespace Go.Proofs.Ytkoadlacdgdemaa
open Go.RowKit Lm
set_option linter.unusedSimpArgs false
set_option linter.unusedVariables false
set_option maxRecDepth 100000

def AnsI (w : World) (c x : Int) (e : Ending) (w' : World) : Prop := ∃ neg ao k cap, e = .returned (.tuple #[.agg #[.bool neg, .slice ao k cap], .int .i64 c]) ∧ Is w' 0 (.agg #[.bool neg, .slice ao k cap]) 15000 x ∧ Below w.heap.size w w'
def AnsOf (w : World) (s : ByteArray) (e : Ending) (w' : World) : Prop := (5000 < s.size ∧ AnsI w 2 0 e w') ∨ (s.size ≤ 5000 ∧ ¬ mayRead (lst s) ∧ AnsI w 4 0 e w') ∨ (s.size ≤ 5000 ∧ mayRead (lst s) ∧ AnsI w 0 (readV (lst s)) e w')
theorem isZ (W : World) : Is W 0 (.agg #[.bool false, .slice none 0 0]) 15000 0 := (is_zero W).mono (Nat.le_refl _) (Nat.zero_le _)
theorem read_ans {w w' : World} {s : ByteArray} {e : Ending} (h : ReadPost w s e w') : AnsOf w s e w' := by
  rcases h with ⟨h1, rfl, h2⟩ | ⟨h1, h2, rfl, h3⟩ | ⟨h1, h2, neg, ao, k, cap, rfl, h3, h4⟩
  · exact .inl ⟨h1, false, none, 0, 0, rfl, isZ _, h2⟩
  · exact .inr (.inl ⟨h1, h2, false, none, 0, 0, rfl, isZ _, h3⟩)
  · exact .inr (.inr ⟨h1, h2, neg, ao, k, cap, rfl, h3.mono (Nat.zero_le _) (by omega), h4⟩)

set_option maxHeartbeats 1600000 in
theorem rReadS_any (w : World) (s : ByteArray) (hs : s.size ≤ 9223372036854775807) :
    Calls Try.prog 12 #[.string s] w (AnsOf w s) := by
  have hW0 : Below w.heap.size w (w.alloc (.cells #[.bool false, .slice none 0 0] 24)) := (by repeat (first | exact Below.refl _ _ | refine Below.alloc ?_ ?_ _ | refine Below.setCell ?_ ?_ _ | refine Below.drew ?_ | refine below_drewN ?_ _ | (· simp) | omega | (· simp; omega) | exact Below.size (by assumption) | assumption | refine below_call ?_ (by assumption) ?_))
  have HW0 := hid hW0
  have bX : Box (w.alloc (.cells #[.bool false, .slice none 0 0] 24)) w.heap.size (.bool false) (.slice none 0 0) := Box.new w (.bool false) (.slice none 0 0) w.heap.size rfl
  clear hW0
  by_cases hbig : 5000 < s.size
  · have hbi : (5000 : Int) < (s.size : Int) := by omega
    have x0 := bX.c0
    have x1 := bX.c1
    have xf := bX.f
    have xl := bX.lt
    have HB := hid hbig
    clear hbig
    go_enter Try.func12, Try.ntmps12
    go_wp2
    refine bodyPost_ret (v := .tuple #[.agg #[.bool false, .slice none 0 0], .int .i64 2]) ?_ rfl (.inl ⟨HB.out, false, none, 0, 0, rfl, isZ _, HW0.out⟩)
    simp [results, Try.results12, go_sem, x0, x1]
  · have hbi : ¬ (5000 : Int) < (s.size : Int) := by omega
    have hle : s.size ≤ 5000 := by omega
    clear hbig
    go_enter Try.func12, Try.ntmps12
    go_wp2_with fail
    generalize w.alloc (.cells #[.bool false, .slice none 0 0] 24) = W0 at *
    refine (rread_any _ s hle).mono ?_
    rintro e w1 (⟨hm, rfl, hb⟩ | ⟨hm, neg, ao, k, cap, rfl, hI, hb⟩)
    · have hs1 := hb.alloc hb.size (.cells #[.bool false, .slice none 0 0] 24)
      have hW1 := below_call HW0.out hs1 HW0.out.size
      have bY := bX.keep hs1
      have HW2 := hid ((hW1.setCell (p := ⟨w.heap.size, 0, none⟩) (Nat.le_refl _) (.bool false)).setCell (p := ⟨w.heap.size, 1, none⟩) (Nat.le_refl _) (.slice none 0 0))
      have x0 := bY.c0
      have x1 := bY.c1
      have xf := bY.f
      have xl := bY.lt
      have HM := hid hm
      clear hm hb hs1 hW1 bX
      go_wp2
      refine bodyPost_ret (v := .tuple #[.agg #[.bool false, .slice none 0 0], .int .i64 4]) ?_ rfl (.inr (.inl ⟨hle, HM.out, false, none, 0, 0, rfl, isZ _, HW2.out⟩))
      simp [results, Try.results12, go_sem, x0, x1]
    · have hs1 := hb.alloc hb.size (.cells #[.bool neg, .slice ao k cap] 24)
      have hW1 := below_call HW0.out hs1 HW0.out.size
      have bY := bX.keep hs1
      have bA : Box (w1.alloc (.cells #[.bool neg, .slice ao k cap] 24)) w1.heap.size (.bool neg) (.slice ao k cap) := Box.new _ _ _ _ rfl
      have hlt : w.heap.size < W0.heap.size := bX.lt
      have HI2 := hid (((((hI.below ((Below.refl _ _).alloc (Nat.le_refl _) (.cells #[.bool neg, .slice ao k cap] 24))).setCell (p := ⟨w.heap.size, 0, none⟩) hlt (.bool neg)).setCell (p := ⟨w.heap.size, 1, none⟩) hlt (.slice ao k cap))).mono (Nat.zero_le _) (show 3 * s.size ≤ 15000 by omega))
      have HW2 := hid ((hW1.setCell (p := ⟨w.heap.size, 0, none⟩) (Nat.le_refl _) (.bool neg)).setCell (p := ⟨w.heap.size, 1, none⟩) (Nat.le_refl _) (.slice ao k cap))
      have x0 := bY.c0
      have x1 := bY.c1
      have xf := bY.f
      have xl := bY.lt
      have y0 := bA.c0
      have y1 := bA.c1
      have yl := bA.lt
      have HM := hid hm
      clear hm hb hs1 hW1 bX hI
      go_wp2
      refine bodyPost_ret (v := .tuple #[.agg #[.bool neg, .slice ao k cap], .int .i64 0]) ?_ rfl (.inr (.inr ⟨hle, HM.out, neg, ao, k, cap, rfl, HI2.out, HW2.out⟩))
      simp [results, Try.results12, go_sem, x0, x1]

end Go.Proofs.Ytkoadlacdgdemaa
