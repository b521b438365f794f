/-
  Plain mathematics: how deep may what stand in one another: counted out.
-/
import Derived.Test.YtfknamdccnaigaaDoorQ25
namespace Go.Proofs.YtfknamdccnaigaaDoor
open Go.RowKit Lx
set_option linter.unusedSimpArgs false
set_option linter.unusedVariables false
set_option maxRecDepth 100000

theorem deepS_0 : (List.range 60).all (okS 0) = true := by kernel_rfl
theorem deepS_1 : (List.range 60).all (okS 1) = true := by kernel_rfl
end Go.Proofs.YtfknamdccnaigaaDoor
