/-
  Plain mathematics: how deep may what stand in one another: counted out.
-/
import Derived.Test.YtfknamdccnaigaaDoorQ25
namespace Go.Proofs.YtfknamdccnaigaaDoor
open Go.RowKit Lx
set_option linter.unusedSimpArgs false
set_option linter.unusedVariables false
set_option maxRecDepth 100000

theorem deepT_0b : (List.range 30).all (fun j => okTt (j + 30)) = true := by kernel_rfl
end Go.Proofs.YtfknamdccnaigaaDoor
