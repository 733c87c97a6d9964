/-
  Layer 10: hashes of lists by heads, the place at which two lists clash.
-/
import Derived.Test.YtgjpdamojfkpiabCubM
import Derived.Test.YtgjpdamojfkpiabKit
namespace Go.Proofs.Ytgjpdamojfkpiab
open Go.RowKit Go.Proofs
set_option linter.unusedVariables false
set_option linter.unusedSimpArgs false
theorem G_lt (x : Fin Ob.RE) : x.val < 18446744073709551616 := Ob.G_word x
/-- What a call of package cube with these numbers answers, memory that was there apart. -/
def Ans (f : FuncId) (args : Array Value) (r : Nat) : Prop := ∀ w, Calls Try.prog f args w fun e w' => e = .returned (.int .u64 (r : Nat)) ∧ Below w.heap.size w w'
theorem rest_toG (x : Nat) : (x : Int) % 288230376287764481 = ((Ob.toG x).val : Nat) := by
  rw [Ob.toG_val]
  show _ = ((x % 288230376287764481 : Nat) : Int)
  omega
theorem rest_toG2 (x : Nat) : (x : Int).tmod 288230376287764481 = ((Ob.toG x).val : Nat) := by
  rw [Int.tmod_eq_emod_of_nonneg (by omega)]
  exact rest_toG x
theorem beq_valN (a b : Fin Ob.RE) : ((((a.val : Nat) : Int)) == ((b.val : Nat) : Int)) = decide (a = b) := by
  by_cases h : a = b
  · subst h; simp
  · rw [decide_eq_false h, beq_eq_false_iff_ne]
    exact fun e => h (Fin.ext (by omega))
/-- The hash of a list's first i numbers (of m). -/
def hdN (m : Nat) (l : Nat → Nat) (i : Nat) : Nat := (Ob.headG (Ob.toG m) (fun j => Ob.toG (l j)) i).val
theorem hdN_lt (m : Nat) (l : Nat → Nat) (i : Nat) : hdN m l i < 18446744073709551616 := G_lt _
theorem hdN_zero (m : Nat) (l : Nat → Nat) (h : m < 288230376287764481) : hdN m l 0 = m := Nat.mod_eq_of_lt h
theorem hdN_succ (m : Nat) (l : Nat → Nat) (i : Nat) : hdN m l (i + 1) = (Ob.twoG (Ob.toG (hdN m l i)) (Ob.toG (l i))).val := by
  unfold hdN
  rw [Ob.toG_of_val]
  rfl
/-- The place that Clash tells, from place i downwards. -/
def clashAt (m : Nat) (a b : Nat → Nat) : Nat → Option Nat
  | 0 => none
  | i + 1 => if hdN m a i = hdN m b i ∧ Ob.toG (a i) = Ob.toG (b i) then clashAt m a b i else some i
theorem clashAt_same {m : Nat} {a b : Nat → Nat} {i : Nat} (h : hdN m a i = hdN m b i ∧ Ob.toG (a i) = Ob.toG (b i)) : clashAt m a b (i + 1) = clashAt m a b i := if_pos h
theorem clashAt_other {m : Nat} {a b : Nat → Nat} {i : Nat} (h : ¬ (hdN m a i = hdN m b i ∧ Ob.toG (a i) = Ob.toG (b i))) : clashAt m a b (i + 1) = some i := if_neg h
/-- What Clash answers: v's and the error. -/
def ClashIs (m n : Nat) (a b : Nat → Nat) (v0 v1 v2 v3 : Int) (er : Value) : Prop :=
  (¬ (m = n ∧ hdN m a m = hdN m b m ∧ clashAt m a b m ≠ none) ∧ v0 = 0 ∧ v1 = 0 ∧ v2 = 0 ∧ v3 = 0 ∧ er = .iface 32 (.int .i64 1)) ∨
  (m = n ∧ hdN m a m = hdN m b m ∧ ∃ i, clashAt m a b m = some i ∧ v0 = (hdN m a i : Nat) ∧ v1 = ((Ob.toG (a i)).val : Nat) ∧ v2 = (hdN m b i : Nat) ∧ v3 = ((Ob.toG (b i)).val : Nat) ∧ er = .nilIface)
theorem clashAt_some (m : Nat) (a b : Nat → Nat) : ∀ (k i : Nat), clashAt m a b k = some i → i < k ∧ ¬ (hdN m a i = hdN m b i ∧ Ob.toG (a i) = Ob.toG (b i)) ∧ ∀ j, i < j → j < k → hdN m a j = hdN m b j
  | 0, i, h => by cases h
  | k + 1, i, h => by
    by_cases hs : hdN m a k = hdN m b k ∧ Ob.toG (a k) = Ob.toG (b k)
    · rw [clashAt_same hs] at h
      obtain ⟨h1, h2, h3⟩ := clashAt_some m a b k i h
      refine ⟨by omega, h2, fun j hj hjk => ?_⟩
      rcases Nat.lt_or_ge j k with h4 | h4
      · exact h3 j hj h4
      · obtain rfl : j = k := by omega
        exact hs.1
    · rw [clashAt_other hs] at h
      cases h
      exact ⟨by omega, hs, fun j hj hjk => by omega⟩
/-- Behind the place that Clash tells the hashes are the same. -/
theorem clash_next {m i : Nat} {a b : Nat → Nat} (h : clashAt m a b m = some i) (heq : hdN m a m = hdN m b m) : hdN m a (i + 1) = hdN m b (i + 1) := by
  obtain ⟨h1, _, h3⟩ := clashAt_some m a b m i h
  rcases Nat.lt_or_ge (i + 1) m with h4 | h4
  · exact h3 _ (by omega) h4
  · obtain rfl : i + 1 = m := by omega
    exact heq
theorem hdN_two (m : Nat) (l : Nat → Nat) (i : Nat) : (Ob.twoG (Ob.toG (hdN m l i)) (Ob.toG (Ob.toG (l i)).val)).val = hdN m l (i + 1) := by
  rw [Ob.toG_of_val, hdN_succ]
end Go.Proofs.Ytgjpdamojfkpiab
