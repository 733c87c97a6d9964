/-
  The walks of the document's own answers for layer 1 (package obolref01).
-/
import Derived.Test.YtoigpjaffggekabDoorInvW
namespace Go.Proofs.YtoigpjaffggekabDoor
open Go.RowKit Go.Proofs
set_option linter.unusedVariables false

end Go.Proofs.YtoigpjaffggekabDoor
