/-
  Rows of words of one's own that grow, word by word.
-/
import Derived.Test.YtgjpdamojfkpiabWds
import Derived.Test.YtgjpdamojfkpiabOwnB
namespace Go.Proofs.Ytgjpdamojfkpiab
open Go.RowKit Go.Proofs
set_option linter.unusedVariables false
set_option linter.unusedSimpArgs false

/-- A row of one's own of n words, none of it below base. -/
def OwnW (w : World) (base : Nat) (v : Value) (n : Nat) (z : Nat → Nat) : Prop := w.ownsRow base 24 1 v n (wals z n)
theorem OwnW.nil (w : World) (base : Nat) (z : Nat → Nat) : OwnW w base (.slice none 0 0) 0 z := World.ownsRow_nil w base _ 1
theorem OwnW.lt {w : World} {base : Nat} {v : Value} {n : Nat} {z : Nat → Nat} (h : OwnW w base v n z) : ∀ k, v.ownBlock = some k → base ≤ k ∧ k < w.heap.size := World.ownsRow.lt h
theorem OwnW.below {w w1 : World} {B base : Nat} {v : Value} {n : Nat} {z : Nat → Nat} (h : OwnW w base v n z) (hb : Below B w w1) (hl : ∀ k, v.ownBlock = some k → k < B) : OwnW w1 base v n z := own_below h hb hl
theorem OwnW.on {w w1 : World} {base : Nat} {v : Value} {n : Nat} {z : Nat → Nat} (h : OwnW w base v n z) (hb : Below w.heap.size w w1) : OwnW w1 base v n z := h.below hb fun k hk => (h.lt k hk).2
theorem OwnW.src {w : World} {base : Nat} {v : Value} {n : Nat} {z : Nat → Nat} (h : OwnW w base v n z) : ∃ a c, v = .slice a n c ∧ n ≤ c ∧ c ≤ maxLen ∧ SrcW w.heap.size w a n z := by
  rcases h.2 with ⟨rfl, rfl⟩ | ⟨g, cap, cur, rfl, h1, h2, h3, h4, h5, h6⟩
  · exact ⟨none, 0, rfl, by omega, by omega, Or.inl rfl⟩
  · exact ⟨_, cap, rfl, h3, h4, SrcW.of (wds_of_row h)⟩
theorem OwnW.congr {w : World} {base : Nat} {v : Value} {n : Nat} {y z : Nat → Nat} (h : OwnW w base v n y) (e : ∀ i, i < n → y i = z i) : OwnW w base v n z := by
  unfold OwnW at *
  rw [wals_congr z y n fun i hi => (e i hi).symm]
  exact h

theorem run_app1W (w : World) (ty : TypeId) (base : Nat) (v : Value) (n : Nat) (z : Nat → Nat) (hown : OwnW w base v n z) (g X : Nat) (hc : w.cell? ⟨g, 0, none⟩ = some (.int .u64 (X : Nat))) (hn : n ≤ 1000000) (hbase : base ≤ w.heap.size) (hX : z n = X) :
    ∃ v' w', (Builtin.append_ #[22, 22] ty #[v, .slice (some ⟨g, 0, none⟩) 1 1]).run Try.prog w = .ok v' w' ∧ OwnW w' base v' (n + 1) z ∧ Below base w w' := by
  obtain ⟨i0, hi, hz1, hz2, hz0⟩ := wdInfo
  obtain ⟨v', w', hr, h2, h3, h4⟩ := run_append_own (P := Try.prog) w base 22 ty 24 i0 _ 1 8 Try.underlying22 hi hz0 hz1 hz2 rfl (by decide) v n _ hown ⟨g, 0, none⟩ 1 1 [.int .u64 (X : Nat)] rfl
    (fun j u h => by cases j with | zero => (simp at h; subst h; rw [add_none]; exact hc) | succ j => simp at h) (by simp [Value.oneCell']) (by unfold maxLen; omega) (by omega) hbase
  refine ⟨v', w', hr, ?_, (Below.refl base w).grown h3 hbase (fun k hk => (hown.lt k hk).1)⟩
  unfold OwnW
  rw [wals_succ, hX]
  exact h2
/-- One word behind a row of one's own, in a region that draws. -/
theorem wp_app1W {o : Oper} {a : Act} {w : World} {K : Act → World → Prop} {Q : Exit → Act → World → Prop} (s x : Operand)
    (ho : o.op = .call { callee := .builtin .append, args := #[s, x], argTypes := #[22, 22] }) (base : Nat) (v : Value) (n : Nat) (z : Nat → Nat) (hs : a.eval s = v) (hown : OwnW w base v n z) (g X : Nat) (hx : a.eval x = .slice (some ⟨g, 0, none⟩) 1 1) (hc : w.cell? ⟨g, 0, none⟩ = some (.int .u64 (X : Nat))) (hn : n ≤ 1000000) (hbase : base ≤ w.heap.size) (hX : z n = X)
    (h : ∀ v' w', OwnW w' base v' (n + 1) z → Below base w w' → K (a.put o.dst v') w') : o.wp Try.prog a w K Q := by
  obtain ⟨v', w', hr, h1, h2⟩ := run_app1W w o.type base v n z hown g X hc hn hbase hX
  unfold Oper.wp execOp
  simp only [ho, resolve, invoke, builtin, Sem.run_bind, Sem.run_pure, Result.andThen_ok, List.map_toArray, List.map_cons, List.map_nil, hs, hx, hr]
  exact h v' w' h1 h2
/-- The same, where operations go in order. -/
theorem wpList_app1W {ops : Array Oper} {rest : List Oper} {o : Oper} {a : Act} {w : World} {Q : Exit → Act → World → Prop} (hgd : o.guard = none) (s x : Operand)
    (ho : o.op = .call { callee := .builtin .append, args := #[s, x], argTypes := #[22, 22] }) (base : Nat) (v : Value) (n : Nat) (z : Nat → Nat) (hs : a.eval s = v) (hown : OwnW w base v n z) (g X : Nat) (hx : a.eval x = .slice (some ⟨g, 0, none⟩) 1 1) (hc : w.cell? ⟨g, 0, none⟩ = some (.int .u64 (X : Nat))) (hn : n ≤ 1000000) (hbase : base ≤ w.heap.size) (hX : z n = X)
    (h : ∀ v' w', OwnW w' base v' (n + 1) z → Below base w w' → wpList Try.prog ops Q rest (a.put o.dst v') w') : wpList Try.prog ops Q (o :: rest) a w := by
  refine wpList_plain hgd fun K hK => ?_
  exact wp_app1W s x ho base v n z hs hown g X hx hc hn hbase hX fun v' w' h1 h2 => hK _ _ (h v' w' h1 h2)
end Go.Proofs.Ytgjpdamojfkpiab
