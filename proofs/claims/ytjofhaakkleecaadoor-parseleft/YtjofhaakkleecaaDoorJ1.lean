/-
  Walks: the small functions of lex.
-/
import Derived.Test.YtjofhaakkleecaaDoorRows
import Derived.Test.YtjofhaakkleecaaDoorJ0
import Derived.WalkKit
import Derived.WalkSpells
import Derived.WalkLawsBesides
import Derived.Deep.QuietTactic
import Derived.BigQuiet
import Derived.Deep.DeepMust
import Derived.WalkSmall
import Derived.Deep.LoopGhost
import Derived.Deep.DeepCutAuto
import Derived.Deep.RegionWith
namespace Go.Proofs.YtjofhaakkleecaaDoor
open Go.RowKit Lx
set_option linter.unusedSimpArgs false
set_option linter.unusedVariables false
set_option maxRecDepth 100000

theorem hid {p : Prop} (h : p) : Hid p := h
theorem ret_bool {a b : Bool} (h : a = b) : Ending.returned (.bool a) = .returned (.bool b) := by rw [h]
theorem ret_int {k : IntKind} {a b : Int} (h : a = b) : Ending.returned (.int k a) = .returned (.int k b) := by rw [h]
theorem asize (w : World) (o : Obj) : (w.alloc o).heap.size = w.heap.size + 1 := by simp
theorem dsize (w : World) : w.drew.heap.size = w.heap.size := rfl
theorem bcell {W w1 : World} (hb : Below W.heap.size W w1) : (∀ b o, b < W.heap.size → w1.cell? ⟨b, o, none⟩ = W.cell? ⟨b, o, none⟩) ∧ (∀ b o, b < W.heap.size → w1.frozen? ⟨b, o, none⟩ = W.frozen? ⟨b, o, none⟩) :=
  ⟨fun b o h => hb.cell (p := ⟨b, o, none⟩) h, fun b o h => hb.frozen (p := ⟨b, o, none⟩) h⟩
theorem below_call {B : Nat} {a w w1 : World} (h : Below B a w) (hb : Below w.heap.size w w1) (hB : B ≤ w.heap.size) : Below B a w1 := h.trans (hb.mono hB)

/-- The bytes of a text. -/
def lst (s : ByteArray) : List Nat := s.toList.map UInt8.toNat
def str (l : List Nat) : ByteArray := ⟨(l.map UInt8.ofNat).toArray⟩
theorem toList_len (s : ByteArray) : s.toList.length = s.size := by rw [ByteArray.toList_eq, Array.length_toList]; rfl
theorem lst_length (s : ByteArray) : (lst s).length = s.size := by rw [lst, List.length_map, toList_len]
theorem toList_get (s : ByteArray) (i : Nat) (h : i < s.size) : s.toList[i]? = some s[i] := by
  rw [ByteArray.toList_eq, Array.getElem?_toList]
  exact Array.getElem?_eq_getElem h
theorem lst_get (s : ByteArray) (i : Nat) (h : i < s.size) : (lst s)[i]? = some s[i].toNat := by
  rw [lst, List.getElem?_map, toList_get s i h]; rfl
theorem ext_toList (s : ByteArray) (a b : Nat) : (s.extract a b).toList = (s.toList.drop a).take (b - a) := by
  rw [ByteArray.toList_eq, ByteArray.toList_eq, ByteArray.data_extract, Array.toList_extract, List.extract]
theorem lst_extract (s : ByteArray) (a b : Nat) : lst (s.extract a b) = ((lst s).drop a).take (b - a) := by
  rw [lst, lst, ext_toList, List.map_take, List.map_drop]
theorem lst_from (s : ByteArray) (a : Nat) : lst (s.extract a s.size) = (lst s).drop a := by
  rw [lst_extract, List.take_of_length_le (by simp [lst_length])]
theorem map_toNat_inj : ∀ a b : List UInt8, a.map UInt8.toNat = b.map UInt8.toNat → a = b
  | [], [], _ => rfl
  | [], y :: s, h => by simp at h
  | x :: r, [], h => by simp at h
  | x :: r, y :: s, h => by
    rw [List.map_cons, List.map_cons, List.cons.injEq] at h
    rw [UInt8.toNat_inj.1 h.1, map_toNat_inj r s h.2]
theorem lst_inj {s t : ByteArray} (h : lst s = lst t) : s = t := by
  have h1 := map_toNat_inj _ _ h
  rw [ByteArray.toList_eq, ByteArray.toList_eq] at h1
  have h2 : s.data = t.data := Array.toList_inj.1 h1
  cases s; cases t; simp only at h2; rw [h2]
theorem lst_str {l : List Nat} (h : ∀ c ∈ l, c < 256) : lst (str l) = l := by
  unfold lst str
  rw [ByteArray.toList_mk]
  induction l with
  | nil => rfl
  | cons c r ih =>
    have h1 := h c (by simp)
    rw [List.map_cons, List.map_cons, ih (fun x hx => h x (by simp [hx]))]
    rw [UInt8.toNat_ofNat_of_lt' (by simpa using h1)]
theorem lst_small (s : ByteArray) : ∀ c ∈ lst s, c < 256 := by
  intro c hc
  obtain ⟨x, -, rfl⟩ := List.mem_map.1 hc
  exact x.toNat_lt
theorem lst_drop (s : ByteArray) (i : Nat) (h : i < s.size) : (lst s).drop i = s[i].toNat :: (lst s).drop (i + 1) := by
  have h1 : i < (lst s).length := by rw [lst_length]; exact h
  rw [List.drop_eq_getElem_cons h1]
  have h2 := lst_get s i h
  rw [List.getElem?_eq_getElem h1] at h2
  rw [Option.some.inj h2]
theorem drop_end (s : ByteArray) (i : Nat) (h : s.size ≤ i) : (lst s).drop i = [] := List.drop_of_length_le (by rw [lst_length]; exact h)
/-- Two texts are compared by their bytes. -/
theorem toList_eq_map {a b : List UInt8} : a = b ↔ a.map UInt8.toNat = b.map UInt8.toNat := ⟨fun h => by rw [h], fun h => map_toNat_inj _ _ h⟩

theorem isLetter_any (w : World) (c : Nat) : Calls Tryd.prog 31 #[.int .u8 (c : Int)] w fun e w' => e = .returned (.bool (isL c)) ∧ w' = w := by
  go_enter Tryd.func31, Tryd.ntmps31
  go_wp2
  all_goals
    go_ret
    refine ⟨ret_bool ?_, rfl⟩
    rw [Bool.eq_iff_iff]
    simp [isL]
    omega
theorem isDigit_any (w : World) (c : Nat) : Calls Tryd.prog 33 #[.int .u8 (c : Int)] w fun e w' => e = .returned (.bool (isD c)) ∧ w' = w := by
  go_enter Tryd.func33, Tryd.ntmps33
  go_wp2
  all_goals
    go_ret
    refine ⟨ret_bool ?_, rfl⟩
    rw [Bool.eq_iff_iff]
    simp [isD]
    omega
theorem isLetter_b (w : World) (c : Nat) (b : Bool) (h : isL c = b) : Calls Tryd.prog 31 #[.int .u8 (c : Int)] w fun e w' => e = .returned (.bool b) ∧ w' = w := by subst h; exact isLetter_any w c
theorem isDigit_b (w : World) (c : Nat) (b : Bool) (h : isD c = b) : Calls Tryd.prog 33 #[.int .u8 (c : Int)] w fun e w' => e = .returned (.bool b) ∧ w' = w := by subst h; exact isDigit_any w c
theorem isOfWord_any (w : World) (c : Nat) : Calls Tryd.prog 42 #[.int .u8 (c : Int)] w fun e w' => e = .returned (.bool (isW c)) ∧ w' = w := by
  cases h1 : isL c <;> cases h2 : isD c
  all_goals
    have HW : Hid (isW c = (isL c || isD c || c == 95)) := hid rfl
    have H1 := hid h1
    have H2 := hid h2
    clear h1 h2
    go_enter Tryd.func42, Tryd.ntmps42
    go_wp2_with (first | (go_at_call 31; refine (isLetter_b _ _ _ H1.out).mono ?_; rintro e w1 ⟨rfl, rfl⟩) | (go_at_call 33; refine (isDigit_b _ _ _ H2.out).mono ?_; rintro e w1 ⟨rfl, rfl⟩))
    go_ret
    refine ⟨ret_bool ?_, rfl⟩
    rw [HW.out, H1.out, H2.out]
    first | rfl | (rw [Bool.eq_iff_iff]; simp; omega)

def keysU : List (List UInt8) := [[112, 114, 111, 99], [118, 97, 114], [104, 97, 118, 111, 99], [97, 115, 115, 117, 109, 101], [97, 115, 115, 101, 114, 116], [105, 102], [101, 108, 115, 101], [119, 104, 105, 108, 101], [101, 105, 116, 104, 101, 114], [111, 114], [97, 110, 100], [110, 111, 116], [116, 114, 117, 101], [102, 97, 108, 115, 101], [115, 107, 105, 112]]
theorem isKey_u (s : ByteArray) : isKey (lst s) = decide (s.toList ∈ keysU) := by
  unfold isKey lst
  rw [decide_eq_decide]
  simp only [keys, keysU, List.mem_cons, List.not_mem_nil, or_false]
  simp only [toList_eq_map, List.map_cons, List.map_nil]
  exact Iff.rfl

set_option maxHeartbeats 1600000 in
theorem key_any (w : World) (s : ByteArray) : Calls Tryd.prog 43 #[.string s] w fun e w' => e = .returned (.bool (isKey (lst s))) ∧ w' = w := by
  have HK := hid (isKey_u s)
  go_enter Tryd.func43, Tryd.ntmps43
  go_wp2
  all_goals
    go_ret
    refine ⟨ret_bool ?_, rfl⟩
    rw [HK.out]
    clear HK
    simp only [beq_iff_eq, beq_eq_false_iff_ne] at *
    first | contradiction | simp [keysU, *]

end Go.Proofs.YtjofhaakkleecaaDoor
