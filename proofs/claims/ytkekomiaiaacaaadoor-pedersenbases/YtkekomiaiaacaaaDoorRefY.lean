/-
  The walks of the document's own answers for layer 7: a point's bytes.
-/
import Derived.Test.YtkekomiaiaacaaaDoorJ3
namespace Go.Proofs.YtkekomiaiaacaaaDoor
open Go.RowKit Go.Proofs
set_option linter.unusedVariables false
set_option linter.unusedSimpArgs false
attribute [local go_sem ↓] Go.wp_at_zero Go.wp_at_succ

end Go.Proofs.YtkekomiaiaacaaaDoor
