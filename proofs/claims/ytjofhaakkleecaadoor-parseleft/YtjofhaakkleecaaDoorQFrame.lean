/-
  The frame of the cards of this seat: laws of one or two numbers of eight bits, of texts.
-/
import Derived.Test.YtjofhaakkleecaaDoorRows
import Derived.Test.YtjofhaakkleecaaDoorCards
import Derived.Test.YtjofhaakkleecaaDoorTie
import Derived.ChangeSame
import Derived.ChangeVars
import Derived.JoinedOf
import Derived.RowKit
import Derived.RowKitTokens
import Derived.LaidLaws
import Derived.LaidHandle
import Derived.Stop.Joined
import Derived.Lay
import Derived.Lib.SmallJoins
import Derived.ProofKit
import Derived.OpenShut
import Derived.SevenTiedAt
namespace Go.Proofs.YtjofhaakkleecaaDoor
open Go.ChangeShapes Go.WideShapes Go.ChangeAt Go.RowKit
theorem Tryd.own : ownKnob Tryd.prog.godebug = none := by kernel_rfl
end Go.Proofs.YtjofhaakkleecaaDoor
