/-
  append of a slice of points onto an empty one: a copy of one's own.
-/
import Derived.Test.YtlimcjpnendcdaaPts
import Derived.Deep.AppendSrc
import Derived.Laws.AppendOwn
namespace Go.Proofs.Ytlimcjpnendcdaa
open Go.RowKit Go.Proofs
set_option linter.unusedVariables false
set_option linter.unusedSimpArgs false

def ptsCells (p : Nat → P3) : Nat → List Value
  | 0 => []
  | n + 1 => ptsCells p n ++ [.bool (p n).1, .int .u64 ((p n).2.1 : Nat), .int .u64 ((p n).2.2 : Nat)]
theorem ptsCells_length (p : Nat → P3) (n : Nat) : (ptsCells p n).length = n * 3 := by
  induction n with
  | zero => rfl
  | succ n ih => show (ptsCells p n ++ [_, _, _]).length = _; rw [List.length_append, ih]; simp; omega
theorem ptsCells_get (p : Nat → P3) (n i : Nat) (hi : i < n) :
    (ptsCells p n)[i * 3]? = some (.bool (p i).1) ∧ (ptsCells p n)[i * 3 + 1]? = some (.int .u64 ((p i).2.1 : Nat)) ∧ (ptsCells p n)[i * 3 + 2]? = some (.int .u64 ((p i).2.2 : Nat)) := by
  induction n with
  | zero => omega
  | succ n ih =>
    have hl := ptsCells_length p n
    show (ptsCells p n ++ [_, _, _])[i * 3]? = _ ∧ (ptsCells p n ++ [_, _, _])[i * 3 + 1]? = _ ∧ (ptsCells p n ++ [_, _, _])[i * 3 + 2]? = _
    rcases Nat.lt_or_ge i n with h | h
    · rw [List.getElem?_append_left (by omega), List.getElem?_append_left (by omega), List.getElem?_append_left (by omega)]
      exact ih h
    · have : i = n := by omega
      subst this
      rw [List.getElem?_append_right (by omega), List.getElem?_append_right (by omega), List.getElem?_append_right (by omega), hl]
      have e0 : i * 3 - i * 3 = 0 := by omega
      have e1 : i * 3 + 1 - i * 3 = 1 := by omega
      have e2 : i * 3 + 2 - i * 3 = 2 := by omega
      rw [e0, e1, e2]
      exact ⟨rfl, rfl, rfl⟩
theorem ptsCells_one (p : Nat → P3) (n : Nat) : ∀ u ∈ ptsCells p n, u.oneCell' = true := by
  induction n with
  | zero => intro u hu; cases hu
  | succ n ih =>
    intro u hu
    rcases List.mem_append.1 hu with h | h
    · exact ih u h
    · simp at h
      rcases h with rfl | rfl | rfl <;> rfl
theorem ptsCells_lie {w : World} {b off n : Nat} {p : Nat → P3} (t : PtsIn w b off n p) (j : Nat) (u : Value) (h : (ptsCells p n)[j]? = some u) : w.cell? ((⟨b, off, none⟩ : Addr).add j) = some u := by
  have hj : j < n * 3 := by rw [← ptsCells_length p n]; exact (List.getElem?_eq_some_iff.1 h).1
  have ad : (⟨b, off, none⟩ : Addr).add j = ⟨b, off + j, none⟩ := by unfold Addr.add; split <;> simp_all
  rw [ad]
  have hi : j / 3 < n := by omega
  have g := ptsCells_get p n (j / 3) hi
  have c := t.at hi
  have hm : j % 3 = 0 ∨ j % 3 = 1 ∨ j % 3 = 2 := by omega
  rcases hm with hm | hm | hm
  · have e : j / 3 * 3 = j := by omega
    rw [e] at g c
    rw [g.1] at h
    rw [c.1]; exact h
  · have e : j / 3 * 3 + 1 = j := by omega
    rw [e] at g
    rw [Nat.add_assoc off, e] at c
    rw [g.2.1] at h
    rw [c.2.1]; exact h
  · have e : j / 3 * 3 + 2 = j := by omega
    rw [e] at g
    rw [Nat.add_assoc off, Nat.add_assoc off, e] at c
    rw [g.2.2] at h
    rw [c.2.2]; exact h

theorem ptInfo : ∃ i, Try.prog.info? 24 = some i ∧ i.size = 3 ∧ i.bytes = 24 ∧ ∃ z, i.zero = some z := by
  have h : (Try.prog.info? 24).map (fun i => (i.size, i.bytes, i.zero.isSome)) = some (3, 24, true) := by kernel_rfl
  cases hi : Try.prog.info? 24 with
  | none => rw [hi] at h; cases h
  | some i =>
    rw [hi] at h
    simp only [Option.map_some, Option.some.injEq, Prod.mk.injEq] at h
    exact ⟨i, rfl, h.1, h.2.1, Option.isSome_iff_exists.1 h.2.2⟩

theorem run_copy (w : World) (ty : TypeId) (b0 : Nat) (a : Option Addr) (n c : Nat) (p : Nat → P3) (hp : PtsAt w a n p) (hn : n ≤ 1000000000) (ha : a = none → n = 0) :
    ∃ g cap w', (Builtin.append_ #[30, 30] ty #[.slice (some ⟨b0, 0, none⟩) 0 0, .slice a n c]).run Try.prog w = .ok (.slice (some ⟨g, 0, none⟩) n cap) w' ∧ PtsAt w' (some ⟨g, 0, none⟩) n p ∧ Below w.heap.size w w' := by
  obtain ⟨i, hi, hs, hb, z, hz⟩ := ptInfo
  by_cases h0 : n = 0
  · subst h0
    have src : Src Try.prog i.size 30 (.slice a 0 c) 0 [] w := by
      cases a with
      | none => exact Src.ofNil w Try.underlying30 c
      | some a => exact Src.ofSlice w Try.underlying30 a 0 c [] (by simp) (fun j u h => by simp at h) (fun u h => by cases h)
    have h := run_append_room_src w 30 30 ty 24 i Try.underlying30 hi b0 0 0 0 (.slice a 0 c) 0 [] src (by omega) (fun j h => by simp at h) (fun j h => by simp at h)
    exact ⟨b0, 0, w, h, Or.inl rfl, Below.refl _ _⟩
  · rcases hp with h | ⟨b, off, rfl, hp⟩
    · exact absurd h h0
    have src : Src Try.prog i.size 30 (.slice (some ⟨b, off, none⟩) n c) n (ptsCells p n) w :=
      Src.ofSlice w Try.underlying30 _ n c _ (by rw [hs]; exact ptsCells_length p n) (ptsCells_lie hp) (ptsCells_one p n)
    have hnc : Builtin.nextslicecap (0 + n) 0 = n := by unfold Builtin.nextslicecap; rw [if_pos (by omega)]; omega
    have h := run_append_grow_src w 30 30 ty 24 i z Try.underlying30 hi hz (some ⟨b0, 0, none⟩) 0 0 [] (run_firstCells_some w.drew i.size 0 _ 0 0 [] (by simp) (fun j v h => by simp at h)) _ n _ src (by omega) (by omega) (by rw [hnc, hb]; omega)
    rw [Nat.zero_add, List.nil_append] at h
    refine ⟨w.heap.size, _, _, h, Or.inr ⟨w.heap.size, 0, rfl, ?_, ?_, ?_, ?_⟩, (Below.refl w.heap.size w).drew.alloc (by simp) _⟩
    · simp
    all_goals
      intro k hk
      have g := ptsCells_get p n k hk
      have hl := ptsCells_length p n
      rw [Nat.zero_add, World.cell?_alloc_at _ _ _ _ (by simp), Array.getElem?_append_left (by simp [hl]; omega), List.getElem?_toArray]
    · exact g.1
    · exact g.2.1
    · exact g.2.2

theorem wpList_copy {ops : Array Oper} {rest : List Oper} {o : Oper} {a : Act} {w : World} {Q : Exit → Act → World → Prop} (hgd : o.guard = none) (s x : Operand)
    (ho : o.op = .call { callee := .builtin .append, args := #[s, x], argTypes := #[30, 30] }) (b0 : Nat) (hs : a.eval s = .slice (some ⟨b0, 0, none⟩) 0 0)
    (ad : Option Addr) (n c : Nat) (p : Nat → P3) (hx : a.eval x = .slice ad n c) (hp : PtsAt w ad n p) (hn : n ≤ 1000000000) (ha : ad = none → n = 0)
    (h : ∀ g cap w', PtsAt w' (some ⟨g, 0, none⟩) n p → Below w.heap.size w w' → wpList Try.prog ops Q rest (a.put o.dst (.slice (some ⟨g, 0, none⟩) n cap)) w') : wpList Try.prog ops Q (o :: rest) a w := by
  refine wpList_plain hgd fun K hK => ?_
  obtain ⟨g, cap, w', hr, h1, h2⟩ := run_copy w o.type b0 ad n c p hp hn ha
  unfold Oper.wp execOp
  simp only [ho, resolve, invoke, builtin, Sem.run_bind, Sem.run_pure, Result.andThen_ok, List.map_toArray, List.map_cons, List.map_nil, hs, hx, hr]
  exact hK _ _ (h g cap w' h1 h2)
end Go.Proofs.Ytlimcjpnendcdaa
