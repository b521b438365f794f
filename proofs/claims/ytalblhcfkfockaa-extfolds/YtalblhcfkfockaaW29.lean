/-
  Walks: Read.
-/
import Derived.Test.YtalblhcfkfockaaW28
import Derived.Test.YtalblhcfkfockaaW19
namespace Go.Proofs.Ytalblhcfkfockaa
open Go.RowKit Lm
set_option linter.unusedSimpArgs false
set_option linter.unusedVariables false
set_option maxRecDepth 100000

/-- What stands at the head of a round of limbsOfDigits. -/
def LDRel (w0 : World) (s : ByteArray) (dv lv : Value) (wr : World) : Prop :=
  ∃ (k : Nat) (t : ByteArray) (ao : Option Addr) (cap n : Nat) (l : List Nat), dv = .string t ∧ lv = .slice ao n cap ∧ k ≤ s.size ∧ Hid (lst t = (lst s).drop k) ∧ Hid (k = 0 ∨ t.size % 9 = 0) ∧ Hid (n = l.length) ∧ wr.ownsRow w0.heap.size 73 1 (.slice ao n cap) n (U l) ∧ ok l ∧ Hid (val l = dval ((lst s).take k)) ∧ l.length ≤ k ∧ Below w0.heap.size w0 wr

theorem size_lst {s t : ByteArray} {k : Nat} (h : lst t = (lst s).drop k) : t.size = s.size - k := by
  rw [← lst_length t, h, List.length_drop, lst_length]

/-- What Read tells. -/
def ReadPost (w : World) (s : ByteArray) (e : Ending) (w' : World) : Prop :=
  (5000 < s.size ∧ e = .returned (.tuple #[.agg #[.bool false, .slice none 0 0], .int .i64 2]) ∧ Below w.heap.size w w') ∨
  (s.size ≤ 5000 ∧ ¬ mayRead (lst s) ∧ e = .returned (.tuple #[.agg #[.bool false, .slice none 0 0], .int .i64 4]) ∧ Below w.heap.size w w') ∨
  (s.size ≤ 5000 ∧ mayRead (lst s) ∧ ∃ neg ao k cap, e = .returned (.tuple #[.agg #[.bool neg, .slice ao k cap], .int .i64 0]) ∧ Is w' w.heap.size (.agg #[.bool neg, .slice ao k cap]) s.size (readV (lst s)) ∧ Below w.heap.size w w')

theorem zero_text (s : ByteArray) : ((s.toList == [48]) : Bool) = decide (lst s = [48]) := by
  rw [lst]
  by_cases h : s.toList = [48]
  · rw [h]; rfl
  · have h2 : ¬ s.toList.map UInt8.toNat = [48] := by
      intro e
      apply h
      exact map_toNat_inj _ _ e
    rw [decide_eq_false h2]
    simpa using h

end Go.Proofs.Ytalblhcfkfockaa
