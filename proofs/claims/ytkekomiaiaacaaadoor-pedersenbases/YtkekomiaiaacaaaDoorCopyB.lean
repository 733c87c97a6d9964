/-
  A copy of bytes that came in: append onto an empty row.
-/
import Derived.Test.YtkekomiaiaacaaaDoorJ3
import Derived.Deep.AppendLies
import Derived.Deep.AppendSrc
namespace Go.Proofs.YtkekomiaiaacaaaDoor
open Go.RowKit Go.Proofs
set_option linter.unusedVariables false
set_option linter.unusedSimpArgs false

theorem wpList_copyB {ops : Array Oper} {rest : List Oper} {o : Oper} {a : Act} {w : World} {Q : Exit → Act → World → Prop} (hgd : o.guard = none) (s x : Operand)
    (ho : o.op = .call { callee := .builtin .append, args := #[s, x], argTypes := #[46, 46] }) (base b0 : Nat) (hs : a.eval s = .slice (some ⟨b0, 0, none⟩) 0 0)
    (hown0 : w.ownsRow base 5 1 (.slice (some ⟨b0, 0, none⟩) 0 0) 0 []) (hbase : base ≤ w.heap.size) (ad : Option Addr) (n c : Nat) (z : Nat → Nat) (hx : a.eval x = .slice ad n c) (hS : Src w ad n z) (hn : n ≤ 1000000)
    (h : ∀ g cap w', w'.ownsRow base 5 1 (.slice (some ⟨g, 0, none⟩) n cap) n (vals z n) → Below base w w' → wpList Tryd.prog ops Q rest (a.put o.dst (.slice (some ⟨g, 0, none⟩) n cap)) w') : wpList Tryd.prog ops Q (o :: rest) a w := by
  obtain ⟨i0, hi, hz1, hz2, hz0⟩ := byteInfo
  by_cases h0 : n = 0
  · subst h0
    have src : Go.Src Tryd.prog i0.size 46 (.slice ad 0 c) 0 [] w := by
      cases ad with
      | none => exact Go.Src.ofNil w Tryd.underlying46 c
      | some a => exact Go.Src.ofSlice w Tryd.underlying46 a 0 c [] (by simp) (fun j u h => by simp at h) (fun u h => by cases h)
    have hr := run_append_room_src w 46 46 o.type 5 i0 Tryd.underlying46 hi b0 0 0 0 (.slice ad 0 c) 0 [] src (by omega) (fun j h => by simp at h) (fun j h => by simp at h)
    refine wpList_plain hgd fun K hK => ?_
    unfold Oper.wp execOp
    simp only [ho, resolve, invoke, builtin, Sem.run_bind, Sem.run_pure, Result.andThen_ok, List.map_toArray, List.map_cons, List.map_nil, hs, hx, hr]
    exact hK _ _ (h b0 0 w hown0 (Below.refl _ _))
  · rcases hS with h1 | ⟨b, off, rfl, hB⟩
    · exact absurd h1 h0
    refine wpList_append_lies _ hgd s x 46 ho base 5 i0 _ 1 1 Tryd.underlying46 hi hz0 hz1 hz2 rfl (by decide) _ 0 [] hs hown0 ⟨b, off, none⟩ n c (vals z n) hx (by simp [vals]) (bys_news hB) (vals_one z n) (by omega) (by unfold maxLen; omega) (by omega) hbase w.heap.size rfl ?_
    intro g cap w' hown hg _ _
    rw [Nat.zero_add, List.nil_append] at hown
    rw [Nat.zero_add]
    exact h g cap w' hown ((Below.refl base w).grown hg hbase (fun k hk => (hown0.lt k hk).1))
end Go.Proofs.YtkekomiaiaacaaaDoor
