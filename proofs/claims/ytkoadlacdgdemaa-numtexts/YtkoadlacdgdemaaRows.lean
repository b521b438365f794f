/-
  No cell of these rows narrows 'for every input' (looked for: loops, veiled, ifaces, maps, wideKeys, modest, calm, conditions, laid).
  DERIVED. THE GIVEN ROWS OF THIS SEAT. 6 by the template 'for every input the law returns true; each argument reads behind the call as it read before'; 0 by the template 'total and deterministic' (their statements: YtkoadlacdgdemaaTotals.lean).
  GIVEN WITH THE SEED: the statements are not yours to turn. If you find one false, say at which input.
  Laid BY PROGRAM, IN A SANDBOX (cutbox-rows.mjs): the forced cells as the released guide's own fill.sh prints them over the translation 0764f79d391cb142… (all of the seat's roots in one cut). By AI agents, Wed Nov 11 2026. No macro, syntax, notation, axiom, sorry.
-/
import Derived.Test.YtkoadlacdgdemaaChecked
import GoSem.Claim
import GoSem.ClaimJoined
import GoSem.ClaimMapViews
import Derived.JoinedTies
import Derived.KernelRfl
namespace Go.Proofs.Ytkoadlacdgdemaa
/- THE CELL 'sum', in the pinned program and in every row, IS THE sha256 OF THE DUMP (.gsa) THAT YtkoadlacdgdemaaProg.lean LOADS. Nothing in Lean hashes anything: it is a label: what it is worth is what the hold of that sum in a sandbox is worth. -/
noncomputable def Try.pinned : Pinned := { name := "ytkoadlacdgdemaa", sum := "0764f79d391cb142cc016ffe8f15e2a03ca933af1d17a91b8467f6191c198a28", checked := Try.checked }
namespace Rows
def none {H : Type} : Left H := { results := [], args := [] }

/-- 'escarpmentlaw1.NumTexts': WHATEVER THE INPUT: true; the input reads as it did. -/
def numTextsSpec : ChangeSpec := { name := "numTexts", fn := fun _ => fun
  | [d1, d2] => { results := [.lit (.bool true)], args := [d1, d2] }
  | _ => none }
def numTextsRow : OpenClaim := { program := "ytkoadlacdgdemaa", sum := "0764f79d391cb142cc016ffe8f15e2a03ca933af1d17a91b8467f6191c198a28", func := "escarpment/escarpmentlaw1.NumTexts", spec := "numTexts", apart := false }
def NumTextsSaid : Prop := numTextsRow.holds Try.pinned (OpenSpec.ofChange numTextsSpec)

/-- ITS FALSE NEIGHBOUR: 'it returns false'. Refute it at one input. -/
def numTextsWrong : ChangeSpec := { name := "numTexts", fn := fun _ => fun
  | [d1, d2] => { results := [.lit (.bool false)], args := [d1, d2] }
  | _ => none }
def NumTextsWrongFalsely : Prop := numTextsRow.holds Try.pinned (OpenSpec.ofChange numTextsWrong)

/-- 'escarpmentlaw3.ExtOrders': WHATEVER THE INPUT: true; the input reads as it did. -/
def extOrdersSpec : ChangeSpec := { name := "extOrders", fn := fun _ => fun
  | [d1, d2, d3] => { results := [.lit (.bool true)], args := [d1, d2, d3] }
  | _ => none }
def extOrdersRow : OpenClaim := { program := "ytkoadlacdgdemaa", sum := "0764f79d391cb142cc016ffe8f15e2a03ca933af1d17a91b8467f6191c198a28", func := "escarpment/escarpmentlaw3.ExtOrders", spec := "extOrders", unfollowed := true, recurses := true, apart := false }
def ExtOrdersSaid : Prop := extOrdersRow.holds Try.pinned (OpenSpec.ofChange extOrdersSpec)

/-- ITS FALSE NEIGHBOUR: 'it returns false'. Refute it at one input. -/
def extOrdersWrong : ChangeSpec := { name := "extOrders", fn := fun _ => fun
  | [d1, d2, d3] => { results := [.lit (.bool false)], args := [d1, d2, d3] }
  | _ => none }
def ExtOrdersWrongFalsely : Prop := extOrdersRow.holds Try.pinned (OpenSpec.ofChange extOrdersWrong)

/-- 'escarpmentlaw3.ExtFolds': WHATEVER THE INPUT: true; the input reads as it did. -/
def extFoldsSpec : ChangeSpec := { name := "extFolds", fn := fun _ => fun
  | [d] => { results := [.lit (.bool true)], args := [d] }
  | _ => none }
def extFoldsRow : OpenClaim := { program := "ytkoadlacdgdemaa", sum := "0764f79d391cb142cc016ffe8f15e2a03ca933af1d17a91b8467f6191c198a28", func := "escarpment/escarpmentlaw3.ExtFolds", spec := "extFolds", unfollowed := true, recurses := true, apart := false }
def ExtFoldsSaid : Prop := extFoldsRow.holds Try.pinned (OpenSpec.ofChange extFoldsSpec)

/-- ITS FALSE NEIGHBOUR: 'it returns false'. Refute it at one input. -/
def extFoldsWrong : ChangeSpec := { name := "extFolds", fn := fun _ => fun
  | [d] => { results := [.lit (.bool false)], args := [d] }
  | _ => none }
def ExtFoldsWrongFalsely : Prop := extFoldsRow.holds Try.pinned (OpenSpec.ofChange extFoldsWrong)

/-- 'escarpmentlaw4.VecSides': WHATEVER THE INPUT: true; the input reads as it did. -/
def vecSidesSpec : ChangeSpec := { name := "vecSides", fn := fun _ => fun
  | [d1, d2, d3] => { results := [.lit (.bool true)], args := [d1, d2, d3] }
  | _ => none }
def vecSidesRow : OpenClaim := { program := "ytkoadlacdgdemaa", sum := "0764f79d391cb142cc016ffe8f15e2a03ca933af1d17a91b8467f6191c198a28", func := "escarpment/escarpmentlaw4.VecSides", spec := "vecSides", unfollowed := true, recurses := true, apart := false }
def VecSidesSaid : Prop := vecSidesRow.holds Try.pinned (OpenSpec.ofChange vecSidesSpec)

/-- ITS FALSE NEIGHBOUR: 'it returns false'. Refute it at one input. -/
def vecSidesWrong : ChangeSpec := { name := "vecSides", fn := fun _ => fun
  | [d1, d2, d3] => { results := [.lit (.bool false)], args := [d1, d2, d3] }
  | _ => none }
def VecSidesWrongFalsely : Prop := vecSidesRow.holds Try.pinned (OpenSpec.ofChange vecSidesWrong)

/-- 'escarpmentlaw4.VecUnits': WHATEVER THE INPUT: true; the input reads as it did. -/
def vecUnitsSpec : ChangeSpec := { name := "vecUnits", fn := fun _ => fun
  | [d1, d2] => { results := [.lit (.bool true)], args := [d1, d2] }
  | _ => none }
def vecUnitsRow : OpenClaim := { program := "ytkoadlacdgdemaa", sum := "0764f79d391cb142cc016ffe8f15e2a03ca933af1d17a91b8467f6191c198a28", func := "escarpment/escarpmentlaw4.VecUnits", spec := "vecUnits", unfollowed := true, recurses := true, apart := false }
def VecUnitsSaid : Prop := vecUnitsRow.holds Try.pinned (OpenSpec.ofChange vecUnitsSpec)

/-- ITS FALSE NEIGHBOUR: 'it returns false'. Refute it at one input. -/
def vecUnitsWrong : ChangeSpec := { name := "vecUnits", fn := fun _ => fun
  | [d1, d2] => { results := [.lit (.bool false)], args := [d1, d2] }
  | _ => none }
def VecUnitsWrongFalsely : Prop := vecUnitsRow.holds Try.pinned (OpenSpec.ofChange vecUnitsWrong)

/-- 'escarpmentlaw4.VecLong': WHATEVER THE INPUT: true; the input reads as it did. -/
def vecLongSpec : ChangeSpec := { name := "vecLong", fn := fun _ => fun
  | [d1, d2, d3] => { results := [.lit (.bool true)], args := [d1, d2, d3] }
  | _ => none }
def vecLongRow : OpenClaim := { program := "ytkoadlacdgdemaa", sum := "0764f79d391cb142cc016ffe8f15e2a03ca933af1d17a91b8467f6191c198a28", func := "escarpment/escarpmentlaw4.VecLong", spec := "vecLong", unfollowed := true, recurses := true, apart := false }
def VecLongSaid : Prop := vecLongRow.holds Try.pinned (OpenSpec.ofChange vecLongSpec)

/-- ITS FALSE NEIGHBOUR: 'it returns false'. Refute it at one input. -/
def vecLongWrong : ChangeSpec := { name := "vecLong", fn := fun _ => fun
  | [d1, d2, d3] => { results := [.lit (.bool false)], args := [d1, d2, d3] }
  | _ => none }
def VecLongWrongFalsely : Prop := vecLongRow.holds Try.pinned (OpenSpec.ofChange vecLongWrong)

/- THE SECOND FORM. 'bulk': how many values and letters a reading holds, each counted each time it is reached (what is shared counts as often as it is met; a slice's spare places count too). A statement '..UptoSaid' is the law's where the arguments, and the package variables that the reading takes, are together of bulk at most 1048576: NARROWER than '..Said'. Prove '..Said' where nothing that the law and all that it calls make is longer than what came in: it says more and counts as full. Else prove '..UptoSaid'. A law counts once. -/
mutual
def uptoBulk {H : Type} : DataW H → Nat
  | .lit (.string bytes) => bytes.length + 1
  | .lit _ => 1
  | .nil => 1
  | .ptr d => uptoBulk d + 1
  | .slice elems spare => uptoBulkAll elems + uptoBulkAll spare + 1
  | .agg parts => uptoBulkAll parts + 1
  | .iface _ d => uptoBulk d + 1
  | .map entries => uptoBulkEntries entries + 1
  | .held _ => 1
def uptoBulkAll {H : Type} : List (DataW H) → Nat
  | [] => 0
  | d :: r => uptoBulk d + uptoBulkAll r
def uptoBulkEntries {H : Type} : List (Lit × DataW H) → Nat
  | [] => 0
  | x :: r => uptoBulkEntry x + uptoBulkEntries r
def uptoBulkEntry {H : Type} : Lit × DataW H → Nat
  | (.string bytes, d) => bytes.length + uptoBulk d + 1
  | (_, d) => uptoBulk d + 1
 end
def uptoSmall : (H : Type) → List (DataW H) → Bool := fun _ ds => decide (uptoBulkAll ds ≤ 1048576)
def OpenSpec.upto (s : _root_.Go.ChangeSpec) : _root_.Go.OpenSpec := { _root_.Go.OpenSpec.ofChange s with cond := some uptoSmall }

/-- 'escarpmentlaw1.NumTexts', WHERE WHAT IT READS IS OF BULK AT MOST 1048576: true; the input reads as it did. -/
def numTextsUptoRow : OpenClaim := { program := "ytkoadlacdgdemaa", sum := "0764f79d391cb142cc016ffe8f15e2a03ca933af1d17a91b8467f6191c198a28", func := "escarpment/escarpmentlaw1.NumTexts", spec := "numTexts", apart := false, narrowed := true }
def NumTextsUptoSaid : Prop := numTextsUptoRow.holds Try.pinned (OpenSpec.upto numTextsSpec)

/-- 'escarpmentlaw3.ExtOrders', WHERE WHAT IT READS IS OF BULK AT MOST 1048576: true; the input reads as it did. -/
def extOrdersUptoRow : OpenClaim := { program := "ytkoadlacdgdemaa", sum := "0764f79d391cb142cc016ffe8f15e2a03ca933af1d17a91b8467f6191c198a28", func := "escarpment/escarpmentlaw3.ExtOrders", spec := "extOrders", unfollowed := true, recurses := true, apart := false, narrowed := true }
def ExtOrdersUptoSaid : Prop := extOrdersUptoRow.holds Try.pinned (OpenSpec.upto extOrdersSpec)

/-- 'escarpmentlaw3.ExtFolds', WHERE WHAT IT READS IS OF BULK AT MOST 1048576: true; the input reads as it did. -/
def extFoldsUptoRow : OpenClaim := { program := "ytkoadlacdgdemaa", sum := "0764f79d391cb142cc016ffe8f15e2a03ca933af1d17a91b8467f6191c198a28", func := "escarpment/escarpmentlaw3.ExtFolds", spec := "extFolds", unfollowed := true, recurses := true, apart := false, narrowed := true }
def ExtFoldsUptoSaid : Prop := extFoldsUptoRow.holds Try.pinned (OpenSpec.upto extFoldsSpec)

/-- 'escarpmentlaw4.VecSides', WHERE WHAT IT READS IS OF BULK AT MOST 1048576: true; the input reads as it did. -/
def vecSidesUptoRow : OpenClaim := { program := "ytkoadlacdgdemaa", sum := "0764f79d391cb142cc016ffe8f15e2a03ca933af1d17a91b8467f6191c198a28", func := "escarpment/escarpmentlaw4.VecSides", spec := "vecSides", unfollowed := true, recurses := true, apart := false, narrowed := true }
def VecSidesUptoSaid : Prop := vecSidesUptoRow.holds Try.pinned (OpenSpec.upto vecSidesSpec)

/-- 'escarpmentlaw4.VecUnits', WHERE WHAT IT READS IS OF BULK AT MOST 1048576: true; the input reads as it did. -/
def vecUnitsUptoRow : OpenClaim := { program := "ytkoadlacdgdemaa", sum := "0764f79d391cb142cc016ffe8f15e2a03ca933af1d17a91b8467f6191c198a28", func := "escarpment/escarpmentlaw4.VecUnits", spec := "vecUnits", unfollowed := true, recurses := true, apart := false, narrowed := true }
def VecUnitsUptoSaid : Prop := vecUnitsUptoRow.holds Try.pinned (OpenSpec.upto vecUnitsSpec)

/-- 'escarpmentlaw4.VecLong', WHERE WHAT IT READS IS OF BULK AT MOST 1048576: true; the input reads as it did. -/
def vecLongUptoRow : OpenClaim := { program := "ytkoadlacdgdemaa", sum := "0764f79d391cb142cc016ffe8f15e2a03ca933af1d17a91b8467f6191c198a28", func := "escarpment/escarpmentlaw4.VecLong", spec := "vecLong", unfollowed := true, recurses := true, apart := false, narrowed := true }
def VecLongUptoSaid : Prop := vecLongUptoRow.holds Try.pinned (OpenSpec.upto vecLongSpec)

end Rows
end Go.Proofs.Ytkoadlacdgdemaa
