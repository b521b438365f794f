/-
  No cell of these rows narrows 'for every input' (looked for: loops, veiled, ifaces, maps, wideKeys, modest, calm, conditions, laid).
  DERIVED. THE GIVEN ROWS OF THIS SEAT. 15 by the template 'for every input the law returns true; each argument reads behind the call as it read before'; 0 by the template 'total and deterministic' (their statements: YtiicjfacekldnaaTotals.lean).
  GIVEN WITH THE SEED: the statements are not yours to turn. If you find one false, say at which input.
  Laid BY PROGRAM, IN A SANDBOX (cutbox-rows.mjs): the forced cells as the released guide's own fill.sh prints them over the translation 71c76702f52075d6… (all of the seat's roots in one cut). By AI agents, Wed Nov 11 2026. No macro, syntax, notation, axiom, sorry.
-/
import Derived.Test.YtiicjfacekldnaaChecked
import GoSem.Claim
import GoSem.ClaimJoined
import GoSem.ClaimMapViews
import Derived.JoinedTies
import Derived.KernelRfl
namespace Go.Proofs.Ytiicjfacekldnaa
/- THE CELL 'sum', in the pinned program and in every row, IS THE sha256 OF THE DUMP (.gsa) THAT YtiicjfacekldnaaProg.lean LOADS. Nothing in Lean hashes anything: it is a label: what it is worth is what the hold of that sum in a sandbox is worth. -/
noncomputable def Try.pinned : Pinned := { name := "ytiicjfacekldnaa", sum := "71c76702f52075d6fdf1a5afd9f0fbf69f03a1cb285f3d8c3b717bb091711e04", checked := Try.checked }
namespace Rows
def none {H : Type} : Left H := { results := [], args := [] }

/-- 'escarpmentlaw1.NumParts': WHATEVER THE INPUT: true; the input reads as it did. -/
def numPartsSpec : ChangeSpec := { name := "numParts", fn := fun _ => fun
  | [d1, d2] => { results := [.lit (.bool true)], args := [d1, d2] }
  | _ => none }
def numPartsRow : OpenClaim := { program := "ytiicjfacekldnaa", sum := "71c76702f52075d6fdf1a5afd9f0fbf69f03a1cb285f3d8c3b717bb091711e04", func := "escarpment/escarpmentlaw1.NumParts", spec := "numParts", apart := false }
def NumPartsSaid : Prop := numPartsRow.holds Try.pinned (OpenSpec.ofChange numPartsSpec)

/-- ITS FALSE NEIGHBOUR: 'it returns false'. Refute it at one input. -/
def numPartsWrong : ChangeSpec := { name := "numParts", fn := fun _ => fun
  | [d1, d2] => { results := [.lit (.bool false)], args := [d1, d2] }
  | _ => none }
def NumPartsWrongFalsely : Prop := numPartsRow.holds Try.pinned (OpenSpec.ofChange numPartsWrong)

/-- 'escarpmentlaw1.NumTexts': WHATEVER THE INPUT: true; the input reads as it did. -/
def numTextsSpec : ChangeSpec := { name := "numTexts", fn := fun _ => fun
  | [d1, d2] => { results := [.lit (.bool true)], args := [d1, d2] }
  | _ => none }
def numTextsRow : OpenClaim := { program := "ytiicjfacekldnaa", sum := "71c76702f52075d6fdf1a5afd9f0fbf69f03a1cb285f3d8c3b717bb091711e04", func := "escarpment/escarpmentlaw1.NumTexts", spec := "numTexts", apart := false }
def NumTextsSaid : Prop := numTextsRow.holds Try.pinned (OpenSpec.ofChange numTextsSpec)

/-- ITS FALSE NEIGHBOUR: 'it returns false'. Refute it at one input. -/
def numTextsWrong : ChangeSpec := { name := "numTexts", fn := fun _ => fun
  | [d1, d2] => { results := [.lit (.bool false)], args := [d1, d2] }
  | _ => none }
def NumTextsWrongFalsely : Prop := numTextsRow.holds Try.pinned (OpenSpec.ofChange numTextsWrong)

/-- 'escarpmentlaw1.NumSquares': WHATEVER THE INPUT: true; the input reads as it did. -/
def numSquaresSpec : ChangeSpec := { name := "numSquares", fn := fun _ => fun
  | [d1, d2] => { results := [.lit (.bool true)], args := [d1, d2] }
  | _ => none }
def numSquaresRow : OpenClaim := { program := "ytiicjfacekldnaa", sum := "71c76702f52075d6fdf1a5afd9f0fbf69f03a1cb285f3d8c3b717bb091711e04", func := "escarpment/escarpmentlaw1.NumSquares", spec := "numSquares", apart := false }
def NumSquaresSaid : Prop := numSquaresRow.holds Try.pinned (OpenSpec.ofChange numSquaresSpec)

/-- ITS FALSE NEIGHBOUR: 'it returns false'. Refute it at one input. -/
def numSquaresWrong : ChangeSpec := { name := "numSquares", fn := fun _ => fun
  | [d1, d2] => { results := [.lit (.bool false)], args := [d1, d2] }
  | _ => none }
def NumSquaresWrongFalsely : Prop := numSquaresRow.holds Try.pinned (OpenSpec.ofChange numSquaresWrong)

/-- 'escarpmentlaw2.RatForms': WHATEVER THE INPUT: true; the input reads as it did. -/
def ratFormsSpec : ChangeSpec := { name := "ratForms", fn := fun _ => fun
  | [d1, d2, d3, d4] => { results := [.lit (.bool true)], args := [d1, d2, d3, d4] }
  | _ => none }
def ratFormsRow : OpenClaim := { program := "ytiicjfacekldnaa", sum := "71c76702f52075d6fdf1a5afd9f0fbf69f03a1cb285f3d8c3b717bb091711e04", func := "escarpment/escarpmentlaw2.RatForms", spec := "ratForms", apart := false }
def RatFormsSaid : Prop := ratFormsRow.holds Try.pinned (OpenSpec.ofChange ratFormsSpec)

/-- ITS FALSE NEIGHBOUR: 'it returns false'. Refute it at one input. -/
def ratFormsWrong : ChangeSpec := { name := "ratForms", fn := fun _ => fun
  | [d1, d2, d3, d4] => { results := [.lit (.bool false)], args := [d1, d2, d3, d4] }
  | _ => none }
def RatFormsWrongFalsely : Prop := ratFormsRow.holds Try.pinned (OpenSpec.ofChange ratFormsWrong)

/-- 'escarpmentlaw2.RatSums': WHATEVER THE INPUT: true; the input reads as it did. -/
def ratSumsSpec : ChangeSpec := { name := "ratSums", fn := fun _ => fun
  | [d1, d2] => { results := [.lit (.bool true)], args := [d1, d2] }
  | _ => none }
def ratSumsRow : OpenClaim := { program := "ytiicjfacekldnaa", sum := "71c76702f52075d6fdf1a5afd9f0fbf69f03a1cb285f3d8c3b717bb091711e04", func := "escarpment/escarpmentlaw2.RatSums", spec := "ratSums", unfollowed := true, recurses := true, apart := false }
def RatSumsSaid : Prop := ratSumsRow.holds Try.pinned (OpenSpec.ofChange ratSumsSpec)

/-- ITS FALSE NEIGHBOUR: 'it returns false'. Refute it at one input. -/
def ratSumsWrong : ChangeSpec := { name := "ratSums", fn := fun _ => fun
  | [d1, d2] => { results := [.lit (.bool false)], args := [d1, d2] }
  | _ => none }
def RatSumsWrongFalsely : Prop := ratSumsRow.holds Try.pinned (OpenSpec.ofChange ratSumsWrong)

/-- 'escarpmentlaw2.RatLaws': WHATEVER THE INPUT: true; the input reads as it did. -/
def ratLawsSpec : ChangeSpec := { name := "ratLaws", fn := fun _ => fun
  | [d1, d2, d3] => { results := [.lit (.bool true)], args := [d1, d2, d3] }
  | _ => none }
def ratLawsRow : OpenClaim := { program := "ytiicjfacekldnaa", sum := "71c76702f52075d6fdf1a5afd9f0fbf69f03a1cb285f3d8c3b717bb091711e04", func := "escarpment/escarpmentlaw2.RatLaws", spec := "ratLaws", unfollowed := true, recurses := true, apart := false }
def RatLawsSaid : Prop := ratLawsRow.holds Try.pinned (OpenSpec.ofChange ratLawsSpec)

/-- ITS FALSE NEIGHBOUR: 'it returns false'. Refute it at one input. -/
def ratLawsWrong : ChangeSpec := { name := "ratLaws", fn := fun _ => fun
  | [d1, d2, d3] => { results := [.lit (.bool false)], args := [d1, d2, d3] }
  | _ => none }
def RatLawsWrongFalsely : Prop := ratLawsRow.holds Try.pinned (OpenSpec.ofChange ratLawsWrong)

/-- 'escarpmentlaw2.RatOrders': WHATEVER THE INPUT: true; the input reads as it did. -/
def ratOrdersSpec : ChangeSpec := { name := "ratOrders", fn := fun _ => fun
  | [d1, d2, d3] => { results := [.lit (.bool true)], args := [d1, d2, d3] }
  | _ => none }
def ratOrdersRow : OpenClaim := { program := "ytiicjfacekldnaa", sum := "71c76702f52075d6fdf1a5afd9f0fbf69f03a1cb285f3d8c3b717bb091711e04", func := "escarpment/escarpmentlaw2.RatOrders", spec := "ratOrders", unfollowed := true, recurses := true, apart := false }
def RatOrdersSaid : Prop := ratOrdersRow.holds Try.pinned (OpenSpec.ofChange ratOrdersSpec)

/-- ITS FALSE NEIGHBOUR: 'it returns false'. Refute it at one input. -/
def ratOrdersWrong : ChangeSpec := { name := "ratOrders", fn := fun _ => fun
  | [d1, d2, d3] => { results := [.lit (.bool false)], args := [d1, d2, d3] }
  | _ => none }
def RatOrdersWrongFalsely : Prop := ratOrdersRow.holds Try.pinned (OpenSpec.ofChange ratOrdersWrong)

/-- 'escarpmentlaw2.RatFloors': WHATEVER THE INPUT: true; the input reads as it did. -/
def ratFloorsSpec : ChangeSpec := { name := "ratFloors", fn := fun _ => fun
  | [d] => { results := [.lit (.bool true)], args := [d] }
  | _ => none }
def ratFloorsRow : OpenClaim := { program := "ytiicjfacekldnaa", sum := "71c76702f52075d6fdf1a5afd9f0fbf69f03a1cb285f3d8c3b717bb091711e04", func := "escarpment/escarpmentlaw2.RatFloors", spec := "ratFloors", unfollowed := true, recurses := true, apart := false }
def RatFloorsSaid : Prop := ratFloorsRow.holds Try.pinned (OpenSpec.ofChange ratFloorsSpec)

/-- ITS FALSE NEIGHBOUR: 'it returns false'. Refute it at one input. -/
def ratFloorsWrong : ChangeSpec := { name := "ratFloors", fn := fun _ => fun
  | [d] => { results := [.lit (.bool false)], args := [d] }
  | _ => none }
def RatFloorsWrongFalsely : Prop := ratFloorsRow.holds Try.pinned (OpenSpec.ofChange ratFloorsWrong)

/-- 'escarpmentlaw2.RatSteps': WHATEVER THE INPUT: true; the input reads as it did. -/
def ratStepsSpec : ChangeSpec := { name := "ratSteps", fn := fun _ => fun
  | [d] => { results := [.lit (.bool true)], args := [d] }
  | _ => none }
def ratStepsRow : OpenClaim := { program := "ytiicjfacekldnaa", sum := "71c76702f52075d6fdf1a5afd9f0fbf69f03a1cb285f3d8c3b717bb091711e04", func := "escarpment/escarpmentlaw2.RatSteps", spec := "ratSteps", unfollowed := true, recurses := true, apart := false }
def RatStepsSaid : Prop := ratStepsRow.holds Try.pinned (OpenSpec.ofChange ratStepsSpec)

/-- ITS FALSE NEIGHBOUR: 'it returns false'. Refute it at one input. -/
def ratStepsWrong : ChangeSpec := { name := "ratSteps", fn := fun _ => fun
  | [d] => { results := [.lit (.bool false)], args := [d] }
  | _ => none }
def RatStepsWrongFalsely : Prop := ratStepsRow.holds Try.pinned (OpenSpec.ofChange ratStepsWrong)

/-- 'escarpmentlaw2.RatHalves': WHATEVER THE INPUT: true; the input reads as it did. -/
def ratHalvesSpec : ChangeSpec := { name := "ratHalves", fn := fun _ => fun
  | [d1, d2] => { results := [.lit (.bool true)], args := [d1, d2] }
  | _ => none }
def ratHalvesRow : OpenClaim := { program := "ytiicjfacekldnaa", sum := "71c76702f52075d6fdf1a5afd9f0fbf69f03a1cb285f3d8c3b717bb091711e04", func := "escarpment/escarpmentlaw2.RatHalves", spec := "ratHalves", apart := false }
def RatHalvesSaid : Prop := ratHalvesRow.holds Try.pinned (OpenSpec.ofChange ratHalvesSpec)

/-- ITS FALSE NEIGHBOUR: 'it returns false'. Refute it at one input. -/
def ratHalvesWrong : ChangeSpec := { name := "ratHalves", fn := fun _ => fun
  | [d1, d2] => { results := [.lit (.bool false)], args := [d1, d2] }
  | _ => none }
def RatHalvesWrongFalsely : Prop := ratHalvesRow.holds Try.pinned (OpenSpec.ofChange ratHalvesWrong)

/-- 'escarpmentlaw2.RatMiddles': WHATEVER THE INPUT: true; the input reads as it did. -/
def ratMiddlesSpec : ChangeSpec := { name := "ratMiddles", fn := fun _ => fun
  | [d1, d2] => { results := [.lit (.bool true)], args := [d1, d2] }
  | _ => none }
def ratMiddlesRow : OpenClaim := { program := "ytiicjfacekldnaa", sum := "71c76702f52075d6fdf1a5afd9f0fbf69f03a1cb285f3d8c3b717bb091711e04", func := "escarpment/escarpmentlaw2.RatMiddles", spec := "ratMiddles", unfollowed := true, recurses := true, apart := false }
def RatMiddlesSaid : Prop := ratMiddlesRow.holds Try.pinned (OpenSpec.ofChange ratMiddlesSpec)

/-- ITS FALSE NEIGHBOUR: 'it returns false'. Refute it at one input. -/
def ratMiddlesWrong : ChangeSpec := { name := "ratMiddles", fn := fun _ => fun
  | [d1, d2] => { results := [.lit (.bool false)], args := [d1, d2] }
  | _ => none }
def RatMiddlesWrongFalsely : Prop := ratMiddlesRow.holds Try.pinned (OpenSpec.ofChange ratMiddlesWrong)

/-- 'escarpmentlaw3.ExtOrders': WHATEVER THE INPUT: true; the input reads as it did. -/
def extOrdersSpec : ChangeSpec := { name := "extOrders", fn := fun _ => fun
  | [d1, d2, d3] => { results := [.lit (.bool true)], args := [d1, d2, d3] }
  | _ => none }
def extOrdersRow : OpenClaim := { program := "ytiicjfacekldnaa", sum := "71c76702f52075d6fdf1a5afd9f0fbf69f03a1cb285f3d8c3b717bb091711e04", func := "escarpment/escarpmentlaw3.ExtOrders", spec := "extOrders", unfollowed := true, recurses := true, apart := false }
def ExtOrdersSaid : Prop := extOrdersRow.holds Try.pinned (OpenSpec.ofChange extOrdersSpec)

/-- ITS FALSE NEIGHBOUR: 'it returns false'. Refute it at one input. -/
def extOrdersWrong : ChangeSpec := { name := "extOrders", fn := fun _ => fun
  | [d1, d2, d3] => { results := [.lit (.bool false)], args := [d1, d2, d3] }
  | _ => none }
def ExtOrdersWrongFalsely : Prop := extOrdersRow.holds Try.pinned (OpenSpec.ofChange extOrdersWrong)

/-- 'escarpmentlaw3.ExtEnds': WHATEVER THE INPUT: true; the input reads as it did. -/
def extEndsSpec : ChangeSpec := { name := "extEnds", fn := fun _ => fun
  | [d1, d2, d3] => { results := [.lit (.bool true)], args := [d1, d2, d3] }
  | _ => none }
def extEndsRow : OpenClaim := { program := "ytiicjfacekldnaa", sum := "71c76702f52075d6fdf1a5afd9f0fbf69f03a1cb285f3d8c3b717bb091711e04", func := "escarpment/escarpmentlaw3.ExtEnds", spec := "extEnds", unfollowed := true, recurses := true, apart := false }
def ExtEndsSaid : Prop := extEndsRow.holds Try.pinned (OpenSpec.ofChange extEndsSpec)

/-- ITS FALSE NEIGHBOUR: 'it returns false'. Refute it at one input. -/
def extEndsWrong : ChangeSpec := { name := "extEnds", fn := fun _ => fun
  | [d1, d2, d3] => { results := [.lit (.bool false)], args := [d1, d2, d3] }
  | _ => none }
def ExtEndsWrongFalsely : Prop := extEndsRow.holds Try.pinned (OpenSpec.ofChange extEndsWrong)

/-- 'escarpmentlaw3.ExtFolds': WHATEVER THE INPUT: true; the input reads as it did. -/
def extFoldsSpec : ChangeSpec := { name := "extFolds", fn := fun _ => fun
  | [d] => { results := [.lit (.bool true)], args := [d] }
  | _ => none }
def extFoldsRow : OpenClaim := { program := "ytiicjfacekldnaa", sum := "71c76702f52075d6fdf1a5afd9f0fbf69f03a1cb285f3d8c3b717bb091711e04", func := "escarpment/escarpmentlaw3.ExtFolds", spec := "extFolds", unfollowed := true, recurses := true, apart := false }
def ExtFoldsSaid : Prop := extFoldsRow.holds Try.pinned (OpenSpec.ofChange extFoldsSpec)

/-- ITS FALSE NEIGHBOUR: 'it returns false'. Refute it at one input. -/
def extFoldsWrong : ChangeSpec := { name := "extFolds", fn := fun _ => fun
  | [d] => { results := [.lit (.bool false)], args := [d] }
  | _ => none }
def ExtFoldsWrongFalsely : Prop := extFoldsRow.holds Try.pinned (OpenSpec.ofChange extFoldsWrong)

/-- 'escarpmentlaw3.ExtTexts': WHATEVER THE INPUT: true; the input reads as it did. -/
def extTextsSpec : ChangeSpec := { name := "extTexts", fn := fun _ => fun
  | [d1, d2] => { results := [.lit (.bool true)], args := [d1, d2] }
  | _ => none }
def extTextsRow : OpenClaim := { program := "ytiicjfacekldnaa", sum := "71c76702f52075d6fdf1a5afd9f0fbf69f03a1cb285f3d8c3b717bb091711e04", func := "escarpment/escarpmentlaw3.ExtTexts", spec := "extTexts", unfollowed := true, recurses := true, apart := false }
def ExtTextsSaid : Prop := extTextsRow.holds Try.pinned (OpenSpec.ofChange extTextsSpec)

/-- ITS FALSE NEIGHBOUR: 'it returns false'. Refute it at one input. -/
def extTextsWrong : ChangeSpec := { name := "extTexts", fn := fun _ => fun
  | [d1, d2] => { results := [.lit (.bool false)], args := [d1, d2] }
  | _ => none }
def ExtTextsWrongFalsely : Prop := extTextsRow.holds Try.pinned (OpenSpec.ofChange extTextsWrong)

/- THE SECOND FORM. 'bulk': how many values and letters a reading holds, each counted each time it is reached (what is shared counts as often as it is met; a slice's spare places count too). A statement '..UptoSaid' is the law's where the arguments, and the package variables that the reading takes, are together of bulk at most 1048576: NARROWER than '..Said'. Prove '..Said' where nothing that the law and all that it calls make is longer than what came in: it says more and counts as full. Else prove '..UptoSaid'. A law counts once. -/
mutual
def uptoBulk {H : Type} : DataW H → Nat
  | .lit (.string bytes) => bytes.length + 1
  | .lit _ => 1
  | .nil => 1
  | .ptr d => uptoBulk d + 1
  | .slice elems spare => uptoBulkAll elems + uptoBulkAll spare + 1
  | .agg parts => uptoBulkAll parts + 1
  | .iface _ d => uptoBulk d + 1
  | .map entries => uptoBulkEntries entries + 1
  | .held _ => 1
def uptoBulkAll {H : Type} : List (DataW H) → Nat
  | [] => 0
  | d :: r => uptoBulk d + uptoBulkAll r
def uptoBulkEntries {H : Type} : List (Lit × DataW H) → Nat
  | [] => 0
  | x :: r => uptoBulkEntry x + uptoBulkEntries r
def uptoBulkEntry {H : Type} : Lit × DataW H → Nat
  | (.string bytes, d) => bytes.length + uptoBulk d + 1
  | (_, d) => uptoBulk d + 1
 end
def uptoSmall : (H : Type) → List (DataW H) → Bool := fun _ ds => decide (uptoBulkAll ds ≤ 1048576)
def OpenSpec.upto (s : _root_.Go.ChangeSpec) : _root_.Go.OpenSpec := { _root_.Go.OpenSpec.ofChange s with cond := some uptoSmall }

/-- 'escarpmentlaw1.NumParts', WHERE WHAT IT READS IS OF BULK AT MOST 1048576: true; the input reads as it did. -/
def numPartsUptoRow : OpenClaim := { program := "ytiicjfacekldnaa", sum := "71c76702f52075d6fdf1a5afd9f0fbf69f03a1cb285f3d8c3b717bb091711e04", func := "escarpment/escarpmentlaw1.NumParts", spec := "numParts", apart := false, narrowed := true }
def NumPartsUptoSaid : Prop := numPartsUptoRow.holds Try.pinned (OpenSpec.upto numPartsSpec)

/-- 'escarpmentlaw1.NumTexts', WHERE WHAT IT READS IS OF BULK AT MOST 1048576: true; the input reads as it did. -/
def numTextsUptoRow : OpenClaim := { program := "ytiicjfacekldnaa", sum := "71c76702f52075d6fdf1a5afd9f0fbf69f03a1cb285f3d8c3b717bb091711e04", func := "escarpment/escarpmentlaw1.NumTexts", spec := "numTexts", apart := false, narrowed := true }
def NumTextsUptoSaid : Prop := numTextsUptoRow.holds Try.pinned (OpenSpec.upto numTextsSpec)

/-- 'escarpmentlaw1.NumSquares', WHERE WHAT IT READS IS OF BULK AT MOST 1048576: true; the input reads as it did. -/
def numSquaresUptoRow : OpenClaim := { program := "ytiicjfacekldnaa", sum := "71c76702f52075d6fdf1a5afd9f0fbf69f03a1cb285f3d8c3b717bb091711e04", func := "escarpment/escarpmentlaw1.NumSquares", spec := "numSquares", apart := false, narrowed := true }
def NumSquaresUptoSaid : Prop := numSquaresUptoRow.holds Try.pinned (OpenSpec.upto numSquaresSpec)

/-- 'escarpmentlaw2.RatForms', WHERE WHAT IT READS IS OF BULK AT MOST 1048576: true; the input reads as it did. -/
def ratFormsUptoRow : OpenClaim := { program := "ytiicjfacekldnaa", sum := "71c76702f52075d6fdf1a5afd9f0fbf69f03a1cb285f3d8c3b717bb091711e04", func := "escarpment/escarpmentlaw2.RatForms", spec := "ratForms", apart := false, narrowed := true }
def RatFormsUptoSaid : Prop := ratFormsUptoRow.holds Try.pinned (OpenSpec.upto ratFormsSpec)

/-- 'escarpmentlaw2.RatSums', WHERE WHAT IT READS IS OF BULK AT MOST 1048576: true; the input reads as it did. -/
def ratSumsUptoRow : OpenClaim := { program := "ytiicjfacekldnaa", sum := "71c76702f52075d6fdf1a5afd9f0fbf69f03a1cb285f3d8c3b717bb091711e04", func := "escarpment/escarpmentlaw2.RatSums", spec := "ratSums", unfollowed := true, recurses := true, apart := false, narrowed := true }
def RatSumsUptoSaid : Prop := ratSumsUptoRow.holds Try.pinned (OpenSpec.upto ratSumsSpec)

/-- 'escarpmentlaw2.RatLaws', WHERE WHAT IT READS IS OF BULK AT MOST 1048576: true; the input reads as it did. -/
def ratLawsUptoRow : OpenClaim := { program := "ytiicjfacekldnaa", sum := "71c76702f52075d6fdf1a5afd9f0fbf69f03a1cb285f3d8c3b717bb091711e04", func := "escarpment/escarpmentlaw2.RatLaws", spec := "ratLaws", unfollowed := true, recurses := true, apart := false, narrowed := true }
def RatLawsUptoSaid : Prop := ratLawsUptoRow.holds Try.pinned (OpenSpec.upto ratLawsSpec)

/-- 'escarpmentlaw2.RatOrders', WHERE WHAT IT READS IS OF BULK AT MOST 1048576: true; the input reads as it did. -/
def ratOrdersUptoRow : OpenClaim := { program := "ytiicjfacekldnaa", sum := "71c76702f52075d6fdf1a5afd9f0fbf69f03a1cb285f3d8c3b717bb091711e04", func := "escarpment/escarpmentlaw2.RatOrders", spec := "ratOrders", unfollowed := true, recurses := true, apart := false, narrowed := true }
def RatOrdersUptoSaid : Prop := ratOrdersUptoRow.holds Try.pinned (OpenSpec.upto ratOrdersSpec)

/-- 'escarpmentlaw2.RatFloors', WHERE WHAT IT READS IS OF BULK AT MOST 1048576: true; the input reads as it did. -/
def ratFloorsUptoRow : OpenClaim := { program := "ytiicjfacekldnaa", sum := "71c76702f52075d6fdf1a5afd9f0fbf69f03a1cb285f3d8c3b717bb091711e04", func := "escarpment/escarpmentlaw2.RatFloors", spec := "ratFloors", unfollowed := true, recurses := true, apart := false, narrowed := true }
def RatFloorsUptoSaid : Prop := ratFloorsUptoRow.holds Try.pinned (OpenSpec.upto ratFloorsSpec)

/-- 'escarpmentlaw2.RatSteps', WHERE WHAT IT READS IS OF BULK AT MOST 1048576: true; the input reads as it did. -/
def ratStepsUptoRow : OpenClaim := { program := "ytiicjfacekldnaa", sum := "71c76702f52075d6fdf1a5afd9f0fbf69f03a1cb285f3d8c3b717bb091711e04", func := "escarpment/escarpmentlaw2.RatSteps", spec := "ratSteps", unfollowed := true, recurses := true, apart := false, narrowed := true }
def RatStepsUptoSaid : Prop := ratStepsUptoRow.holds Try.pinned (OpenSpec.upto ratStepsSpec)

/-- 'escarpmentlaw2.RatHalves', WHERE WHAT IT READS IS OF BULK AT MOST 1048576: true; the input reads as it did. -/
def ratHalvesUptoRow : OpenClaim := { program := "ytiicjfacekldnaa", sum := "71c76702f52075d6fdf1a5afd9f0fbf69f03a1cb285f3d8c3b717bb091711e04", func := "escarpment/escarpmentlaw2.RatHalves", spec := "ratHalves", apart := false, narrowed := true }
def RatHalvesUptoSaid : Prop := ratHalvesUptoRow.holds Try.pinned (OpenSpec.upto ratHalvesSpec)

/-- 'escarpmentlaw2.RatMiddles', WHERE WHAT IT READS IS OF BULK AT MOST 1048576: true; the input reads as it did. -/
def ratMiddlesUptoRow : OpenClaim := { program := "ytiicjfacekldnaa", sum := "71c76702f52075d6fdf1a5afd9f0fbf69f03a1cb285f3d8c3b717bb091711e04", func := "escarpment/escarpmentlaw2.RatMiddles", spec := "ratMiddles", unfollowed := true, recurses := true, apart := false, narrowed := true }
def RatMiddlesUptoSaid : Prop := ratMiddlesUptoRow.holds Try.pinned (OpenSpec.upto ratMiddlesSpec)

/-- 'escarpmentlaw3.ExtOrders', WHERE WHAT IT READS IS OF BULK AT MOST 1048576: true; the input reads as it did. -/
def extOrdersUptoRow : OpenClaim := { program := "ytiicjfacekldnaa", sum := "71c76702f52075d6fdf1a5afd9f0fbf69f03a1cb285f3d8c3b717bb091711e04", func := "escarpment/escarpmentlaw3.ExtOrders", spec := "extOrders", unfollowed := true, recurses := true, apart := false, narrowed := true }
def ExtOrdersUptoSaid : Prop := extOrdersUptoRow.holds Try.pinned (OpenSpec.upto extOrdersSpec)

/-- 'escarpmentlaw3.ExtEnds', WHERE WHAT IT READS IS OF BULK AT MOST 1048576: true; the input reads as it did. -/
def extEndsUptoRow : OpenClaim := { program := "ytiicjfacekldnaa", sum := "71c76702f52075d6fdf1a5afd9f0fbf69f03a1cb285f3d8c3b717bb091711e04", func := "escarpment/escarpmentlaw3.ExtEnds", spec := "extEnds", unfollowed := true, recurses := true, apart := false, narrowed := true }
def ExtEndsUptoSaid : Prop := extEndsUptoRow.holds Try.pinned (OpenSpec.upto extEndsSpec)

/-- 'escarpmentlaw3.ExtFolds', WHERE WHAT IT READS IS OF BULK AT MOST 1048576: true; the input reads as it did. -/
def extFoldsUptoRow : OpenClaim := { program := "ytiicjfacekldnaa", sum := "71c76702f52075d6fdf1a5afd9f0fbf69f03a1cb285f3d8c3b717bb091711e04", func := "escarpment/escarpmentlaw3.ExtFolds", spec := "extFolds", unfollowed := true, recurses := true, apart := false, narrowed := true }
def ExtFoldsUptoSaid : Prop := extFoldsUptoRow.holds Try.pinned (OpenSpec.upto extFoldsSpec)

/-- 'escarpmentlaw3.ExtTexts', WHERE WHAT IT READS IS OF BULK AT MOST 1048576: true; the input reads as it did. -/
def extTextsUptoRow : OpenClaim := { program := "ytiicjfacekldnaa", sum := "71c76702f52075d6fdf1a5afd9f0fbf69f03a1cb285f3d8c3b717bb091711e04", func := "escarpment/escarpmentlaw3.ExtTexts", spec := "extTexts", unfollowed := true, recurses := true, apart := false, narrowed := true }
def ExtTextsUptoSaid : Prop := extTextsUptoRow.holds Try.pinned (OpenSpec.upto extTextsSpec)

end Rows
end Go.Proofs.Ytiicjfacekldnaa
