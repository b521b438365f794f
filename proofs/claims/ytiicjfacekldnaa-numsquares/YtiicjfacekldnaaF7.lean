/-
  The law NumSquares: both cases.
-/
import Derived.Test.YtiicjfacekldnaaF7a
import Derived.Test.YtiicjfacekldnaaF7b
namespace Go.Proofs.Ytiicjfacekldnaa
open Go.RowKit Lm
set_option linter.unusedVariables false
set_option maxRecDepth 100000

theorem numSquares_any (w : World) (n1 : Bool) (a1 : Option Addr) (c1 : Nat) (l1 : List Nat) (n2 : Bool) (a2 : Option Addr) (c2 : Nat) (l2 : List Nat) (h1 : SlAt w a1 c1 l1) (h2 : SlAt w a2 c2 l2) :
    Calls Try.prog 5 #[.agg #[.bool n1, .slice a1 l1.length c1], .agg #[.bool n2, .slice a2 l2.length c2]] w fun e w' => e = .returned (.bool true) ∧ Below w.heap.size w w' := by
  by_cases hy : mean n2 l2 = 0
  · exact numSquares_zero w n1 a1 c1 l1 n2 a2 c2 l2 h1 h2 hy
  · exact numSquares_nz w n1 a1 c1 l1 n2 a2 c2 l2 h1 h2 hy

end Go.Proofs.Ytiicjfacekldnaa
