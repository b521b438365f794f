/-
  Walks: the limbs of digits.
-/
import Derived.Test.YtalblhcfkfockaaW27
import Derived.Test.YtalblhcfkfockaaW15
namespace Go.Proofs.Ytalblhcfkfockaa
open Go.RowKit Lm
set_option linter.unusedSimpArgs false
set_option linter.unusedVariables false
set_option maxRecDepth 100000

theorem take_get (l : List Nat) (k : Nat) (h : k < l.length) : l.take (k + 1) = l.take k ++ [l.getD k 0] := by
  rw [List.take_succ_eq_append_getElem h, List.getD_eq_getElem?_getD, List.getElem?_eq_getElem h]; rfl

/-- Limbs of the call's own. -/
def TBPost (w0 : World) (L V : Nat) (e : Ending) (w' : World) : Prop :=
  ∃ (ao : Option Addr) (cap k : Nat) (l : List Nat), e = .returned (.slice ao k cap) ∧ Hid (k = l.length) ∧ w'.ownsRow w0.heap.size 73 1 (.slice ao k cap) k (U l) ∧ ok l ∧ val l = V ∧ l.length ≤ L ∧ Below w0.heap.size w0 w'

theorem tb_step {l C : List Nat} {k c n : Nat} (hkC : k < C.length) (hkl : k < l.length) (hv : val (C.take k) + pw k * c = val (l.take k) * 1000000000 + n) :
    val ((C.set k ((l.getD k 0 * 1000000000 + c) % 4294967296)).take (k + 1)) + pw (k + 1) * ((l.getD k 0 * 1000000000 + c) / 4294967296) = val (l.take (k + 1)) * 1000000000 + n := by
  rw [take_set_succ hkC, val_take_succ l k hkl, pw_succ_mul]
  have h1 := Nat.div_add_mod (l.getD k 0 * 1000000000 + c) 4294967296
  have h2 := congrArg (pw k * ·) h1
  simp only [Nat.mul_add] at h2
  rw [Nat.add_mul, Nat.mul_assoc (pw k)]
  generalize pw k * (4294967296 * ((l.getD k 0 * 1000000000 + c) / 4294967296)) = X at *
  generalize pw k * ((l.getD k 0 * 1000000000 + c) % 4294967296) = Y at *
  generalize pw k * (l.getD k 0 * 1000000000) = Z at *
  omega
theorem own_set {w : World} {base g cap k x i : Nat} {C : List Nat} (h : w.ownsRow base 73 1 (.slice (some ⟨g, 0, none⟩) k cap) k (U C)) : (w.setCell ⟨g, i, none⟩ (.int .u32 (x : Int))).ownsRow base 73 1 (.slice (some ⟨g, 0, none⟩) k cap) k (U (C.set i x)) := by
  have := h.stored i (.int .u32 (x : Int))
  rw [show U (C.set i x) = (U C).set i (.int .u32 (x : Int)) by simp [U, List.map_set]]
  exact this.1
theorem own_some {w : World} {base : Nat} {ao : Option Addr} {cap k : Nat} {xs : List Value} (h : w.ownsRow base 73 1 (.slice ao k cap) k xs) (hk : 0 < k) : ∃ g, ao = some ⟨g, 0, none⟩ ∧ base ≤ g ∧ k ≤ cap ∧ cap ≤ maxLen := by
  rcases h.2 with ⟨h', h0⟩ | ⟨g, cap', cur, h', hbg, hg, hnc, hcm, hcs, htake⟩
  · omega
  · simp only [Value.slice.injEq, true_and] at h'
    obtain ⟨rfl, rfl⟩ := h'
    exact ⟨g, rfl, hbg, hnc, hcm⟩
theorem own_capm {w : World} {base : Nat} {ao : Option Addr} {cap k : Nat} {xs : List Value} (h : w.ownsRow base 73 1 (.slice ao k cap) k xs) : k ≤ cap ∧ cap ≤ maxLen := by
  rcases h.2 with ⟨h', h0⟩ | ⟨g, cap', cur, h', hbg, hg, hnc, hcm, hcs, htake⟩
  · simp only [Value.slice.injEq] at h'
    obtain ⟨rfl, rfl, rfl⟩ := h'
    exact ⟨Nat.le_refl _, by unfold maxLen; omega⟩
  · simp only [Value.slice.injEq, true_and] at h'
    obtain ⟨rfl, rfl⟩ := h'
    exact ⟨hnc, hcm⟩

end Go.Proofs.Ytalblhcfkfockaa
