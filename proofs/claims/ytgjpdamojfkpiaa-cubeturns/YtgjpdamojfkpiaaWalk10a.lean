/-
  The walks of layer 10's statements, as rows ask for them.
-/
import Derived.Test.YtgjpdamojfkpiaaLaw10a
import Derived.Test.YtgjpdamojfkpiaaLaw10b
import Derived.Test.YtgjpdamojfkpiaaLaw10c
import Derived.Test.YtgjpdamojfkpiaaCubK
namespace Go.Proofs.Ytgjpdamojfkpiaa
open Go.RowKit Go.Proofs
set_option linter.unusedVariables false
set_option linter.unusedSimpArgs false
theorem up10W (w : World) : Calls Try.prog 9 #[] w fun e w' => e = .returned (.bool true) ∧ Below w.heap.size w w' :=
  up10_of w umany_nil uturnW ubackW utwoW
theorem cubeTurns_walk (a0 a1 : Int) (w : World) (w0 : (Lit.int .u64 a0).wf = true) (w1 : (Lit.int .u64 a1).wf = true) :
    Calls Try.prog 3 #[.int .u64 a0, .int .u64 a1] w fun e w' => e = .returned (.bool true) ∧ Below w.heap.size w w' := by
  obtain ⟨k, rfl, hk⟩ := word_of w0
  obtain ⟨x, rfl, hx⟩ := word_of w1
  exact cturns_of k x hk hx w up10W uturnW ubackW
theorem cubeBacks_walk (a0 a1 : Int) (w : World) (w0 : (Lit.int .u64 a0).wf = true) (w1 : (Lit.int .u64 a1).wf = true) :
    Calls Try.prog 4 #[.int .u64 a0, .int .u64 a1] w fun e w' => e = .returned (.bool true) ∧ Below w.heap.size w w' := by
  obtain ⟨k, rfl, hk⟩ := word_of w0
  obtain ⟨x, rfl, hx⟩ := word_of w1
  exact cbacks_of k x hk hx w up10W ubackW
theorem cubeOne_walk (a0 a1 a2 : Int) (w : World) (w0 : (Lit.int .u64 a0).wf = true) (w1 : (Lit.int .u64 a1).wf = true) (w2 : (Lit.int .u64 a2).wf = true) :
    Calls Try.prog 8 #[.int .u64 a0, .int .u64 a1, .int .u64 a2] w fun e w' => e = .returned (.bool true) ∧ Below w.heap.size w w' := by
  obtain ⟨k, rfl, hk⟩ := word_of w0
  obtain ⟨x, rfl, hx⟩ := word_of w1
  obtain ⟨y, rfl, hy⟩ := word_of w2
  exact cone_of k x y hk hx hy w up10W uturnW
theorem cubeHashes_walk (a0 a1 : Int) (a2 : Option Addr) (len2 cap2 : Nat) (z2 : List Int) (w : World) (w0 : (Lit.int .u64 a0).wf = true) (w1 : (Lit.int .u64 a1).wf = true) (w2 : IsRow .u64 w a2 len2 cap2 z2) :
    Calls Try.prog 5 #[.int .u64 a0, .int .u64 a1, .slice a2 len2 cap2] w fun e w' => e = .returned (.bool true) ∧ Below w.heap.size w w' := by
  obtain ⟨x, rfl, hx⟩ := word_of w0
  obtain ⟨y, rfl, hy⟩ := word_of w1
  obtain ⟨l, _, _, hl, hs, _, _⟩ := srcW_of_isRow w2
  by_cases h : 200 < len2
  · exact chashes_out _ _ a2 len2 cap2 h w up10W
  · exact chashes_core _ _ _ _ a2 len2 cap2 (by omega) l w hs up10W (utwoW x y hx hy) (ktwoW x y hx hy) (fun W h => umanyW a2 len2 cap2 (by omega) l hl W h) (fun W h => kmanyW a2 len2 cap2 (by omega) l hl W h)
theorem cubeClashes_walk (a0 : Option Addr) (len0 cap0 : Nat) (z0 : List Int) (a1 : Option Addr) (len1 cap1 : Nat) (z1 : List Int) (w : World) (w0 : IsRow .u64 w a0 len0 cap0 z0) (w1 : IsRow .u64 w a1 len1 cap1 z1) :
    Calls Try.prog 6 #[.slice a0 len0 cap0, .slice a1 len1 cap1] w fun e w' => e = .returned (.bool true) ∧ Below w.heap.size w w' := by
  obtain ⟨u, _, _, hu, hs, _, _⟩ := srcW_of_isRow w0
  obtain ⟨v, _, _, hv, ht, _, _⟩ := srcW_of_isRow w1
  by_cases h1 : 100 < len0
  · exact cclash_out a0 a1 len0 cap0 len1 cap1 (Or.inl h1) w up10W
  by_cases h2 : 100 < len1
  · exact cclash_out a0 a1 len0 cap0 len1 cap1 (Or.inr ⟨by omega, h2⟩) w up10W
  obtain ⟨v0, v1, v2, v3, er, hC, cc⟩ := uclashW a0 a1 len0 cap0 len1 cap1 (by omega) u v hu hv w hs ht
  exact cclash_core a0 a1 len0 cap0 len1 cap1 (by omega) (by omega) u v v0 v1 v2 v3 er w hs ht hC up10W cc (fun W h => kheadsW a0 len0 cap0 (by omega) u hu W h) (fun W h => kheadsW a1 len1 cap1 (by omega) v hv W h)
theorem cubePairs_walk (a0 : Option Addr) (len0 cap0 : Nat) (z0 : List Int) (a1 : Option Addr) (len1 cap1 : Nat) (z1 : List Int) (w : World) (w0 : IsRow .u64 w a0 len0 cap0 z0) (w1 : IsRow .u64 w a1 len1 cap1 z1) :
    Calls Try.prog 7 #[.slice a0 len0 cap0, .slice a1 len1 cap1] w fun e w' => e = .returned (.bool true) ∧ Below w.heap.size w w' := by
  obtain ⟨u, _, _, hu, hs, _, _⟩ := srcW_of_isRow w0
  obtain ⟨v, _, _, hv, ht, _, _⟩ := srcW_of_isRow w1
  by_cases h1 : 100 < len0
  · exact cpairs_out a0 a1 len0 cap0 len1 cap1 (Or.inl h1) w up10W
  obtain ⟨v0, v1, v2, v3, er, hC, cc⟩ := uclashW a0 a1 len0 cap0 len1 cap1 (by omega) u v hu hv w hs ht
  exact cpairs_of a0 a1 len0 cap0 len1 cap1 u v v0 v1 v2 v3 er w hC up10W cc utwoW
end Go.Proofs.Ytgjpdamojfkpiaa
