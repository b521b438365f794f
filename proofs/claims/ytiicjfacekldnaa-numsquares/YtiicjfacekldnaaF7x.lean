/-
  A box beside one that is written, what is to be shown first ahead.
-/
import Derived.Test.YtiicjfacekldnaaEnv2
namespace Go.Proofs.Ytiicjfacekldnaa
open Go.RowKit Lm
set_option linter.unusedVariables false
set_option maxRecDepth 100000

theorem Box.off {w : World} {b : Nat} {x y : Value} {a : Addr} (ha : b ≠ a.block) (h : Box w b x y) (u : Value) : Box (w.setCell a u) b x y := h.other ha u

end Go.Proofs.Ytiicjfacekldnaa
