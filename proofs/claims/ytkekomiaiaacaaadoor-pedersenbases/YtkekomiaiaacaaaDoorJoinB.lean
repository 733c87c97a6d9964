/-
  Bytes behind bytes that fill their room.
-/
import Derived.Test.YtkekomiaiaacaaaDoorJ3
import Derived.Deep.AppendSrc
import Derived.Deep.DeepAppendRoom
namespace Go.Proofs.YtkekomiaiaacaaaDoor
open Go.RowKit Go.Proofs
set_option linter.unusedVariables false
set_option linter.unusedSimpArgs false

/-- n bytes, others behind them. -/
def joinB (z : Nat → Nat) (n : Nat) (u : Nat → Nat) (j : Nat) : Nat := if j < n then z j else u (j - n)
theorem vals_joinB (z u : Nat → Nat) (n : Nat) : ∀ m, vals z n ++ vals u m = vals (joinB z n u) (n + m)
  | 0 => by rw [vals_zero, List.append_nil]; exact vals_congr _ _ _ fun i hi => by unfold joinB; rw [if_pos hi]
  | m + 1 => by
    rw [vals_succ, ← List.append_assoc, vals_joinB z u n m, ← Nat.add_assoc, vals_succ]
    have e : joinB z n u (n + m) = u m := by unfold joinB; rw [if_neg (by omega), Nat.add_sub_cancel_left]
    rw [e]
theorem wpList_full {ops : Array Oper} {rest : List Oper} {o : Oper} {a : Act} {w : World} {Q : Exit → Act → World → Prop} (hgd : o.guard = none) (s x : Operand)
    (ho : o.op = .call { callee := .builtin .append, args := #[s, x], argTypes := #[46, 46] }) (g n b off m c : Nat) (z u : Nat → Nat) (hz : Bys w g 0 n z) (hu : Bys w b off m u) (hm : 0 < m) (hn : n ≤ 1000000) (hm' : m ≤ 1000000)
    (hs : a.eval s = .slice (some ⟨g, 0, none⟩) n n) (hx : a.eval x = .slice (some ⟨b, off, none⟩) m c)
    (h : ∀ cap' w', n + m ≤ cap' → Bys w' w.heap.size 0 (n + m) (joinB z n u) → Below w.heap.size w w' → wpList Tryd.prog ops Q rest (a.put o.dst (.slice (some ⟨w.heap.size, 0, none⟩) (n + m) cap')) w') : wpList Tryd.prog ops Q (o :: rest) a w := by
  refine wpList_plain hgd fun K hK => ?_
  obtain ⟨i0, hi, hz1, hz2, hz0⟩ := byteInfo
  have src : Go.Src Tryd.prog i0.size 46 (.slice (some ⟨b, off, none⟩) m c) m (vals u m) w :=
    Go.Src.ofSlice w Tryd.underlying46 _ m c _ (by rw [hz1]; simp [vals]) (bys_news hu) (vals_one u m)
  have hold := run_firstCells_some (P := Tryd.prog) w.drew i0.size n ⟨g, 0, none⟩ n n (vals z n) (by rw [hz1]; simp [vals]) (fun j v hv => bys_news hz j v hv)
  have hr := run_append_grow_src w 46 46 o.type 5 i0 _ Tryd.underlying46 hi hz0 (some ⟨g, 0, none⟩) n n (vals z n) hold _ m _ src (by omega) (by omega) (by rw [hz2]; exact growslice_fits (by omega) (by omega))
  rw [vals_joinB] at hr
  have hge := grownCap_ge w (n + m) n 5
  generalize grownCap w (n + m) n 5 = C at hr hge
  unfold Oper.wp execOp
  simp only [ho, resolve, invoke, builtin, Sem.run_bind, Sem.run_pure, Result.andThen_ok, List.map_toArray, List.map_cons, List.map_nil, hs, hx, hr]
  refine hK _ _ (h C _ hge ⟨by simp, fun j hj => ?_⟩ (((Below.refl w.heap.size w).drew).alloc (Nat.le_refl _) _))
  rw [Nat.zero_add, show (w.drew.alloc (.cells ((vals (joinB z n u) (n + m)).toArray ++ Builtin.zeroCells (Value.int IntKind.u8 0).cells (C - (n + m))) 5)).cell? ⟨w.heap.size, j, none⟩ = ((vals (joinB z n u) (n + m)).toArray ++ Builtin.zeroCells (Value.int IntKind.u8 0).cells (C - (n + m)))[j]? from World.cell?_alloc_at _ _ _ _ (by simp),
    Array.getElem?_append_left (by simp [vals]; omega), List.getElem?_toArray]
  exact vals_get _ _ j hj
theorem joinB_pair (n k i : Nat) (hi : i < 16) : joinB (Ob.byteAt n) 8 (Ob.byteAt k) i = byteOf (pair n k) i := by
  unfold joinB byteOf pair
  by_cases h : i < 8
  · rw [if_pos h, show i / 8 = 0 by omega, show i % 8 = i by omega, if_pos rfl]
  · rw [if_neg h, show i / 8 = 1 by omega, show i % 8 = i - 8 by omega, if_neg (by decide)]
theorem Bys.congr {w : World} {b off n : Nat} {y z : Nat → Nat} (t : Bys w b off n y) (h : ∀ i, i < n → y i = z i) : Bys w b off n z := ⟨t.lt, fun i hi => by rw [← h i hi]; exact t.at_ i hi⟩
end Go.Proofs.YtkekomiaiaacaaaDoor
