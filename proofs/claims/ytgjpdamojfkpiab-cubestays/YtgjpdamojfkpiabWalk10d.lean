/-
  The walk of layer 10's statement that lists stay, as its row asks for it.
-/
import Derived.Test.YtgjpdamojfkpiabLaw10d
import Derived.Test.YtgjpdamojfkpiabCubK
namespace Go.Proofs.Ytgjpdamojfkpiab
open Go.RowKit Go.Proofs
set_option linter.unusedVariables false
set_option linter.unusedSimpArgs false
theorem cubeStays_walk (a0 : Option Addr) (len0 cap0 : Nat) (z0 : List Int) (w : World) (w0 : IsRow .u64 w a0 len0 cap0 z0) :
    Calls Try.prog 3 #[.slice a0 len0 cap0] w fun e w' => e = .returned (.bool true) ∧ Below w.heap.size w w' := by
  obtain ⟨u, _, _, hu, hs, _, _⟩ := srcW_of_isRow w0
  have cu : ∀ w, Calls Try.prog 4 #[] w fun e w' => e = .returned (.bool true) ∧ Below w.heap.size w w' := fun w => up10_of w umany_nil uturnW ubackW utwoW
  by_cases h : 100 < len0
  · exact cstays_out a0 len0 cap0 h w cu
  · exact cstays_core a0 len0 cap0 (by omega) u _ _ w hs cu (fun W f h hs => umanyW f len0 h (by omega) u hu W hs) (fun W f h hs => uclash_self f f len0 h h (by omega) u hu W hs hs)
end Go.Proofs.Ytgjpdamojfkpiab
