/-
  The walks of modular.euclid and modular.Inv.
-/
import Derived.Test.YtgjpdamojfkpiaaModX
import Derived.Test.YtgjpdamojfkpiaaEuclid
import Derived.LoopTactic
namespace Go.Proofs.Ytgjpdamojfkpiaa
open Go.RowKit Go.Proofs
set_option linter.unusedVariables false

theorem w64_in (n : Int) (h1 : -9223372036854775808 ≤ n) (h2 : n ≤ 9223372036854775807) : wrap64 n = n := IntWalk.wrap64_in n ⟨h1, h2⟩

end Go.Proofs.Ytgjpdamojfkpiaa
