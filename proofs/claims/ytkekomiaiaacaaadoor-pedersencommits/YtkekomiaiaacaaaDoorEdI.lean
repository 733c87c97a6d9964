/-
  The walk of package edwards' In.
-/
import Derived.Test.YtkekomiaiaacaaaDoorJ2
namespace Go.Proofs.YtkekomiaiaacaaaDoor
open Go.RowKit Go.Proofs
set_option linter.unusedVariables false
set_option linter.unusedSimpArgs false
attribute [local go_sem ↓] Go.wp_at_zero Go.wp_at_succ

/-- Whether it is a point of order S. -/
def inS (x y : Nat) : Bool := Ob.isG x y && isZ (Ob.gmul (Ob.ofG x y) 72057593894066549)
end Go.Proofs.YtkekomiaiaacaaaDoor
