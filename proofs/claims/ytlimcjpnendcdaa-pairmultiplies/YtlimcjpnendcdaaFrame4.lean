/-
  How slices of points that came in are opened.
-/
import Derived.Test.YtlimcjpnendcdaaFrame3
import Derived.Test.YtlimcjpnendcdaaPts
namespace Go.Proofs.Ytlimcjpnendcdaa
open Go.ChangeShapes Go.WideShapes Go.ChangeAt Go.RowKit
set_option linter.unusedVariables false
set_option linter.unusedSimpArgs false

theorem cellsPt : Try.prog.cellsOf 24 = 3 := by kernel_rfl
theorem cellsB : Try.prog.cellsOf 4 = 1 := by kernel_rfl
theorem cellsW : Try.prog.cellsOf 22 = 1 := by kernel_rfl
theorem list_three {l : List Value} (h : l.length = 3) : ∃ a b c, l = [a, b, c] := by
  match l, h with
  | [a, b, c], _ => exact ⟨a, b, c, rfl⟩
/-- Three cells that read as a point. -/
theorem open_cells {H : Type} {enc : TypeId × Value → H} {W : World} {fuel : Nat} {cs : List Value} {x : DataW H × List MemPlace} (h : DataW.trod enc Try.prog W 0 (fun _ => true) true fuel 24 cs = some x) :
    ∃ p : P3, cs = [.bool p.1, .int .u64 (p.2.1 : Nat), .int .u64 (p.2.2 : Nat)] ∧ P3w p := by
  obtain ⟨xs, n, _, _, hlen, hxl, hf⟩ := DataW.trod_struct Try.underlying24 h
  rw [cellsPt] at hlen
  obtain ⟨v0, v1, v2, rfl⟩ := list_three hlen
  have g0 := hf 0 _ rfl
  have g1 := hf 1 _ rfl
  have g2 := hf 2 _ rfl
  simp [cellsB, cellsW] at g0 g1 g2
  cases h0 : xs[0]? with
  | none => have := List.getElem?_eq_none_iff.mp h0; simp at hxl; omega
  | some y0 =>
  cases h1 : xs[1]? with
  | none => have := List.getElem?_eq_none_iff.mp h1; simp at hxl; omega
  | some y1 =>
  cases h2 : xs[2]? with
  | none => have := List.getElem?_eq_none_iff.mp h2; simp at hxl; omega
  | some y2 =>
  rw [h0] at g0
  rw [h1] at g1
  rw [h2] at g2
  obtain ⟨i, e0, _⟩ := DataW.trod_bool Try.underlying4 g0
  obtain ⟨a, e1, _, wa⟩ := DataW.trod_int Try.underlying22 g1
  obtain ⟨b, e2, _, wb⟩ := DataW.trod_int Try.underlying22 g2
  simp at e0 e1 e2
  subst e0 e1 e2
  obtain ⟨m, rfl, hm⟩ := word_of wa
  obtain ⟨k, rfl, hk⟩ := word_of wb
  exact ⟨(i, m, k), rfl, hm, hk⟩
/-- A slice of points that came in. -/
theorem isPts_of {H : Type} {enc : TypeId × Value → H} {W : World} {a : Option Addr} {len cap : Nat} {d : DataW H} {p : List MemPlace}
    (h : DataW.Trod enc Try.prog W 0 (fun _ => true) true 30 (.slice a len cap) d p) : ∃ z : Nat → P3, PtsAt W a len z ∧ (∀ i, i < len → P3w (z i)) ∧ len ≤ maxLen := by
  obtain ⟨fuel, hf⟩ := h
  rcases DataW.trod_slice Try.underlying30 hf with ⟨hcs, _⟩ | ⟨x, l, c, elems, rest, n, _, hcs, _, hb, hl, hm, hlen, hel, _, _⟩
  · simp [Value.cells] at hcs
    obtain ⟨rfl, rfl, rfl⟩ := hcs
    exact ⟨fun _ => (false, 0, 0), Or.inl rfl, fun i hi => absurd hi (by omega), by omega⟩
  · simp [Value.cells] at hcs
    obtain ⟨rfl, rfl, rfl⟩ := hcs
    by_cases h0 : len = 0
    · subst h0
      exact ⟨fun _ => (false, 0, 0), Or.inl rfl, fun i hi => absurd hi (by omega), by omega⟩
    have each : ∀ i, i < len → ∃ q : P3, P3w q ∧ W.cell? (x.add (i * 3)) = some (.bool q.1) ∧ W.cell? (x.add (i * 3 + 1)) = some (.int .u64 (q.2.1 : Nat)) ∧ W.cell? (x.add (i * 3 + 2)) = some (.int .u64 (q.2.2 : Nat)) := by
      intro i hi
      have h1 := hel i hi
      have h2 : ∃ y, elems[i]? = some y := ⟨elems[i]'(by omega), List.getElem?_eq_getElem (by omega)⟩
      obtain ⟨y, hy⟩ := h2
      rw [hy, Option.bind_eq_some_iff] at h1
      obtain ⟨cs, hc, ht⟩ := h1
      rw [cellsPt] at hc
      obtain ⟨_, _, hcell⟩ := World.cells?_some hc
      obtain ⟨q, rfl, hq⟩ := open_cells ht
      have c0 := hcell 0 (by omega)
      have c1 := hcell 1 (by omega)
      have c2 := hcell 2 (by omega)
      have ad : ∀ k j, (x.add k).add j = x.add (k + j) := fun k j => by
        unfold Addr.add
        by_cases hk : k = 0 <;> by_cases hj : j = 0 <;> simp [hk, hj, Nat.add_assoc]
      rw [ad] at c0 c1 c2
      exact ⟨q, hq, by simpa using c0, by simpa using c1, by simpa using c2⟩
    have hc0 := (each 0 (by omega)).choose_spec.2.1
    obtain ⟨b, off, spot⟩ := x
    have hspot : spot = none := by simpa [Addr.add] using World.cell?_spot hc0
    subst hspot
    have ad : ∀ j, (⟨b, off, none⟩ : Addr).add j = ⟨b, off + j, none⟩ := fun j => by unfold Addr.add; split <;> simp_all
    simp only [ad] at each
    have hlt := World.block_lt_of_cell? _ _ hc0
    simp [Addr.add] at hlt
    refine ⟨fun i => if h : i < len then (each i h).choose else (false, 0, 0), Or.inr ⟨b, off, rfl, hlt, ?_, ?_, ?_⟩, ?_, by omega⟩
    · intro i hi
      rw [dif_pos hi]
      exact (each i hi).choose_spec.2.1
    · intro i hi
      rw [dif_pos hi]
      exact (each i hi).choose_spec.2.2.1
    · intro i hi
      rw [dif_pos hi]
      exact (each i hi).choose_spec.2.2.2
    · intro i hi
      dsimp only
      rw [dif_pos hi]
      exact (each i hi).choose_spec.1
end Go.Proofs.Ytlimcjpnendcdaa
