/-
  Walks: the document's own number of a text.
-/
import Derived.Test.YtogdchddmjokmaaGreatDoorT2
import Derived.Test.YtogdchddmjokmaaGreatDoorWF
namespace Go.Proofs.YtogdchddmjokmaaGreatDoor
open Go.RowKit Lm
set_option linter.unusedSimpArgs false
set_option linter.unusedVariables false
set_option maxRecDepth 100000

theorem row_one (w : World) (x g : Nat) (hx : x < 4294967296) (hg : g = w.heap.size) : SlAt (w.alloc (.cells #[.int .u32 (x : Int)] 55)) (some ⟨g, 0, none⟩) 1 [x] := by
  subst hg
  have h : RowAt (w.alloc (.cells #[.int .u32 (x : Int)] 55)) w.heap.size [x] := heap_alloc_new w _
  exact h.whole (by rw [ok_cons]; exact ⟨hx, ok_nil⟩) (by simp)

theorem rtrim_one (w : World) (ao : Option Addr) (y : Nat) (h : SlAt w ao 1 [y]) : Calls Tryz.prog 39 #[.slice ao 1 1] w fun e w' => ∃ n l3, e = .returned (.slice ao n 1) ∧ w' = w ∧ n = l3.length ∧ SlAt w' ao 1 l3 ∧ val l3 = y ∧ l3.length ≤ 1 := by
  refine (rtrim_any w ao 1 [y] h).mono ?_
  rintro e w' ⟨n, rfl, rfl, hn, hcn, hvn⟩
  exact ⟨n, [y].take n, rfl, rfl, (take_len hn).symm, h.take n hn, by rw [hvn]; simp [val], by rw [take_len hn]; simpa using hn⟩

theorem take_nx (d : ByteArray) (i : Nat) (h : i < d.size) : (lst d).take (i + 1) = (lst d).take i ++ [d[i].toNat] := by
  have h1 : i < (lst d).length := by rw [lst_length]; exact h
  rw [List.take_succ_eq_append_getElem h1]
  have h2 := lst_get d i h
  rw [List.getElem?_eq_getElem h1] at h2
  rw [Option.some.inj h2]
theorem take_dv (d : ByteArray) (i : Nat) (h : i < d.size) : dval ((lst d).take (i + 1)) = dval ((lst d).take i) * 10 + (d[i].toNat - 48) := by rw [take_nx d i h, dval_snoc]

def RdRel (w : World) (d : ByteArray) (lv iv : Value) (wr : World) : Prop :=
  ∃ (i : Nat) (ao : Option Addr) (cap k : Nat) (l : List Nat), i ≤ d.size ∧ iv = .int .i64 i ∧ lv = .slice ao k cap ∧ Hid (k = l.length) ∧ SlAt wr ao cap l ∧ l.length ≤ 3 * i ∧ Hid (val l = dval ((lst d).take i)) ∧ Hid (∀ c ∈ (lst d).take i, 48 ≤ c ∧ c ≤ 57) ∧ Below w.heap.size w wr
def RdMid (W0 : World) (i : Nat) (l : List Nat) (x : Nat) (lv : Value) (wc : World) : Prop := ∃ (ao : Option Addr) (cap k : Nat) (l' : List Nat), lv = .slice ao k cap ∧ Hid (k = l'.length) ∧ SlAt wc ao cap l' ∧ l'.length ≤ 3 * (i + 1) ∧ Hid (val l' = val l * 10 + (x - 48)) ∧ Below W0.heap.size W0 wc
/-- What read tells. -/
def RdPost (w : World) (s : ByteArray) (e : Ending) (w' : World) : Prop :=
  (¬ mayRead (lst s) ∧ e = .returned (.tuple #[.agg #[.bool false, .slice none 0 0], .bool false]) ∧ Below w.heap.size w w') ∨
  (mayRead (lst s) ∧ ∃ neg ao k cap, e = .returned (.tuple #[.agg #[.bool neg, .slice ao k cap], .bool true]) ∧ Is w' w.heap.size (.agg #[.bool neg, .slice ao k cap]) (3 * s.size) (readV (lst s)) ∧ Below w.heap.size w w')

end Go.Proofs.YtogdchddmjokmaaGreatDoor
