/-
  No cell of these rows narrows 'for every input' (looked for: loops, veiled, ifaces, maps, wideKeys, modest, calm, conditions, laid).
  DERIVED. THE GIVEN ROWS OF THIS SEAT. 5 by the template 'for every input the law returns true; each argument reads behind the call as it read before'; 0 by the template 'total and deterministic' (their statements: YtmnlggmdomcajaaGreatTotals.lean).
  GIVEN WITH THE SEED: the statements are not yours to turn. If you find one false, say at which input.
  Laid BY PROGRAM, IN A SANDBOX (cutbox-rows.mjs): the forced cells as the released guide's own fill.sh prints them over the translation 4421b10654e0ad1f… (all of the seat's roots in one cut). By AI agents, Wed Nov 11 2026. No macro, syntax, notation, axiom, sorry.
-/
import Derived.Test.YtmnlggmdomcajaaGreatChecked
import GoSem.Claim
import GoSem.ClaimJoined
import GoSem.ClaimMapViews
import Derived.JoinedTies
import Derived.KernelRfl
namespace Go.Proofs.YtmnlggmdomcajaaGreat
/- THE CELL 'sum', in the pinned program and in every row, IS THE sha256 OF THE DUMP (.gsa) THAT YtmnlggmdomcajaaGreatProg.lean LOADS. Nothing in Lean hashes anything: it is a label: what it is worth is what the hold of that sum in a sandbox is worth. -/
noncomputable def Tryz.pinned : Pinned := { name := "ytmnlggmdomcajaagreat", sum := "4421b10654e0ad1fbeadff175b7e90523fff4ee591db14fa92c940880efe4eb7", checked := Tryz.checked }
namespace Rows
def none {H : Type} : Left H := { results := [], args := [] }

/-- 'escarpmentlaw3.ExtAll': WHATEVER THE INPUT: true; the input reads as it did. -/
def extAllSpec : ChangeSpec := { name := "extAll", fn := fun _ => fun
  | [d1, d2, d3] => { results := [.lit (.bool true)], args := [d1, d2, d3] }
  | _ => none }
def extAllRow : OpenClaim := { program := "ytmnlggmdomcajaagreat", sum := "4421b10654e0ad1fbeadff175b7e90523fff4ee591db14fa92c940880efe4eb7", func := "escarpment/escarpmentlaw3.ExtAll", spec := "extAll", unfollowed := true, recurses := true, apart := false }
def ExtAllSaid : Prop := extAllRow.holds Tryz.pinned (OpenSpec.ofChange extAllSpec)

/-- ITS FALSE NEIGHBOUR: 'it returns false'. Refute it at one input. -/
def extAllWrong : ChangeSpec := { name := "extAll", fn := fun _ => fun
  | [d1, d2, d3] => { results := [.lit (.bool false)], args := [d1, d2, d3] }
  | _ => none }
def ExtAllWrongFalsely : Prop := extAllRow.holds Tryz.pinned (OpenSpec.ofChange extAllWrong)

/-- 'escarpmentlaw5.LpRights': WHATEVER THE INPUT: true; the input reads as it did. -/
def lpRightsSpec : ChangeSpec := { name := "lpRights", fn := fun _ => fun
  | [d1, d2] => { results := [.lit (.bool true)], args := [d1, d2] }
  | _ => none }
def lpRightsRow : OpenClaim := { program := "ytmnlggmdomcajaagreat", sum := "4421b10654e0ad1fbeadff175b7e90523fff4ee591db14fa92c940880efe4eb7", func := "escarpment/escarpmentlaw5.LpRights", spec := "lpRights", unfollowed := true, recurses := true, apart := false }
def LpRightsSaid : Prop := lpRightsRow.holds Tryz.pinned (OpenSpec.ofChange lpRightsSpec)

/-- ITS FALSE NEIGHBOUR: 'it returns false'. Refute it at one input. -/
def lpRightsWrong : ChangeSpec := { name := "lpRights", fn := fun _ => fun
  | [d1, d2] => { results := [.lit (.bool false)], args := [d1, d2] }
  | _ => none }
def LpRightsWrongFalsely : Prop := lpRightsRow.holds Tryz.pinned (OpenSpec.ofChange lpRightsWrong)

/-- 'escarpmentlaw5.LpHolds': WHATEVER THE INPUT: true; the input reads as it did. -/
def lpHoldsSpec : ChangeSpec := { name := "lpHolds", fn := fun _ => fun
  | [d1, d2] => { results := [.lit (.bool true)], args := [d1, d2] }
  | _ => none }
def lpHoldsRow : OpenClaim := { program := "ytmnlggmdomcajaagreat", sum := "4421b10654e0ad1fbeadff175b7e90523fff4ee591db14fa92c940880efe4eb7", func := "escarpment/escarpmentlaw5.LpHolds", spec := "lpHolds", unfollowed := true, recurses := true, apart := false }
def LpHoldsSaid : Prop := lpHoldsRow.holds Tryz.pinned (OpenSpec.ofChange lpHoldsSpec)

/-- ITS FALSE NEIGHBOUR: 'it returns false'. Refute it at one input. -/
def lpHoldsWrong : ChangeSpec := { name := "lpHolds", fn := fun _ => fun
  | [d1, d2] => { results := [.lit (.bool false)], args := [d1, d2] }
  | _ => none }
def LpHoldsWrongFalsely : Prop := lpHoldsRow.holds Tryz.pinned (OpenSpec.ofChange lpHoldsWrong)

/-- 'escarpmentlaw5.LpOnes': WHATEVER THE INPUT: true; the input reads as it did. -/
def lpOnesSpec : ChangeSpec := { name := "lpOnes", fn := fun _ => fun
  | [d1, d2, d3, d4] => { results := [.lit (.bool true)], args := [d1, d2, d3, d4] }
  | _ => none }
def lpOnesRow : OpenClaim := { program := "ytmnlggmdomcajaagreat", sum := "4421b10654e0ad1fbeadff175b7e90523fff4ee591db14fa92c940880efe4eb7", func := "escarpment/escarpmentlaw5.LpOnes", spec := "lpOnes", unfollowed := true, recurses := true, apart := false }
def LpOnesSaid : Prop := lpOnesRow.holds Tryz.pinned (OpenSpec.ofChange lpOnesSpec)

/-- ITS FALSE NEIGHBOUR: 'it returns false'. Refute it at one input. -/
def lpOnesWrong : ChangeSpec := { name := "lpOnes", fn := fun _ => fun
  | [d1, d2, d3, d4] => { results := [.lit (.bool false)], args := [d1, d2, d3, d4] }
  | _ => none }
def LpOnesWrongFalsely : Prop := lpOnesRow.holds Tryz.pinned (OpenSpec.ofChange lpOnesWrong)

/-- 'escarpmentlaw5.LpMade': WHATEVER THE INPUT: true; the input reads as it did. -/
def lpMadeSpec : ChangeSpec := { name := "lpMade", fn := fun _ => fun
  | [d1, d2, d3, d4] => { results := [.lit (.bool true)], args := [d1, d2, d3, d4] }
  | _ => none }
def lpMadeRow : OpenClaim := { program := "ytmnlggmdomcajaagreat", sum := "4421b10654e0ad1fbeadff175b7e90523fff4ee591db14fa92c940880efe4eb7", func := "escarpment/escarpmentlaw5.LpMade", spec := "lpMade", unfollowed := true, recurses := true, apart := false }
def LpMadeSaid : Prop := lpMadeRow.holds Tryz.pinned (OpenSpec.ofChange lpMadeSpec)

/-- ITS FALSE NEIGHBOUR: 'it returns false'. Refute it at one input. -/
def lpMadeWrong : ChangeSpec := { name := "lpMade", fn := fun _ => fun
  | [d1, d2, d3, d4] => { results := [.lit (.bool false)], args := [d1, d2, d3, d4] }
  | _ => none }
def LpMadeWrongFalsely : Prop := lpMadeRow.holds Tryz.pinned (OpenSpec.ofChange lpMadeWrong)

/- THE SECOND FORM. 'bulk': how many values and letters a reading holds, each counted each time it is reached (what is shared counts as often as it is met; a slice's spare places count too). A statement '..UptoSaid' is the law's where the arguments, and the package variables that the reading takes, are together of bulk at most 1048576: NARROWER than '..Said'. Prove '..Said' where nothing that the law and all that it calls make is longer than what came in: it says more and counts as full. Else prove '..UptoSaid'. A law counts once. -/
mutual
def uptoBulk {H : Type} : DataW H → Nat
  | .lit (.string bytes) => bytes.length + 1
  | .lit _ => 1
  | .nil => 1
  | .ptr d => uptoBulk d + 1
  | .slice elems spare => uptoBulkAll elems + uptoBulkAll spare + 1
  | .agg parts => uptoBulkAll parts + 1
  | .iface _ d => uptoBulk d + 1
  | .map entries => uptoBulkEntries entries + 1
  | .held _ => 1
def uptoBulkAll {H : Type} : List (DataW H) → Nat
  | [] => 0
  | d :: r => uptoBulk d + uptoBulkAll r
def uptoBulkEntries {H : Type} : List (Lit × DataW H) → Nat
  | [] => 0
  | x :: r => uptoBulkEntry x + uptoBulkEntries r
def uptoBulkEntry {H : Type} : Lit × DataW H → Nat
  | (.string bytes, d) => bytes.length + uptoBulk d + 1
  | (_, d) => uptoBulk d + 1
 end
def uptoSmall : (H : Type) → List (DataW H) → Bool := fun _ ds => decide (uptoBulkAll ds ≤ 1048576)
def OpenSpec.upto (s : _root_.Go.ChangeSpec) : _root_.Go.OpenSpec := { _root_.Go.OpenSpec.ofChange s with cond := some uptoSmall }

/-- 'escarpmentlaw3.ExtAll', WHERE WHAT IT READS IS OF BULK AT MOST 1048576: true; the input reads as it did. -/
def extAllUptoRow : OpenClaim := { program := "ytmnlggmdomcajaagreat", sum := "4421b10654e0ad1fbeadff175b7e90523fff4ee591db14fa92c940880efe4eb7", func := "escarpment/escarpmentlaw3.ExtAll", spec := "extAll", unfollowed := true, recurses := true, apart := false, narrowed := true }
def ExtAllUptoSaid : Prop := extAllUptoRow.holds Tryz.pinned (OpenSpec.upto extAllSpec)

/-- 'escarpmentlaw5.LpRights', WHERE WHAT IT READS IS OF BULK AT MOST 1048576: true; the input reads as it did. -/
def lpRightsUptoRow : OpenClaim := { program := "ytmnlggmdomcajaagreat", sum := "4421b10654e0ad1fbeadff175b7e90523fff4ee591db14fa92c940880efe4eb7", func := "escarpment/escarpmentlaw5.LpRights", spec := "lpRights", unfollowed := true, recurses := true, apart := false, narrowed := true }
def LpRightsUptoSaid : Prop := lpRightsUptoRow.holds Tryz.pinned (OpenSpec.upto lpRightsSpec)

/-- 'escarpmentlaw5.LpHolds', WHERE WHAT IT READS IS OF BULK AT MOST 1048576: true; the input reads as it did. -/
def lpHoldsUptoRow : OpenClaim := { program := "ytmnlggmdomcajaagreat", sum := "4421b10654e0ad1fbeadff175b7e90523fff4ee591db14fa92c940880efe4eb7", func := "escarpment/escarpmentlaw5.LpHolds", spec := "lpHolds", unfollowed := true, recurses := true, apart := false, narrowed := true }
def LpHoldsUptoSaid : Prop := lpHoldsUptoRow.holds Tryz.pinned (OpenSpec.upto lpHoldsSpec)

/-- 'escarpmentlaw5.LpOnes', WHERE WHAT IT READS IS OF BULK AT MOST 1048576: true; the input reads as it did. -/
def lpOnesUptoRow : OpenClaim := { program := "ytmnlggmdomcajaagreat", sum := "4421b10654e0ad1fbeadff175b7e90523fff4ee591db14fa92c940880efe4eb7", func := "escarpment/escarpmentlaw5.LpOnes", spec := "lpOnes", unfollowed := true, recurses := true, apart := false, narrowed := true }
def LpOnesUptoSaid : Prop := lpOnesUptoRow.holds Tryz.pinned (OpenSpec.upto lpOnesSpec)

/-- 'escarpmentlaw5.LpMade', WHERE WHAT IT READS IS OF BULK AT MOST 1048576: true; the input reads as it did. -/
def lpMadeUptoRow : OpenClaim := { program := "ytmnlggmdomcajaagreat", sum := "4421b10654e0ad1fbeadff175b7e90523fff4ee591db14fa92c940880efe4eb7", func := "escarpment/escarpmentlaw5.LpMade", spec := "lpMade", unfollowed := true, recurses := true, apart := false, narrowed := true }
def LpMadeUptoSaid : Prop := lpMadeUptoRow.holds Tryz.pinned (OpenSpec.upto lpMadeSpec)

end Rows
end Go.Proofs.YtmnlggmdomcajaaGreat
