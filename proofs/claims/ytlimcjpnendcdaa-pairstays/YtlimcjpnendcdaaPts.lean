/-
  Slices of points.
-/
import Derived.Test.YtlimcjpnendcdaaKit3
namespace Go.Proofs.Ytlimcjpnendcdaa
open Go.RowKit Go.Proofs
set_option linter.unusedVariables false
set_option linter.unusedSimpArgs false

/-- A point's three fields. -/
abbrev P3 : Type := Bool × Nat × Nat
def p3V (p : P3) : Value := .agg #[.bool p.1, .int .u64 (p.2.1 : Nat), .int .u64 (p.2.2 : Nat)]
/-- n points lie at a. -/
structure PtsIn (w : World) (b off n : Nat) (p : Nat → P3) : Prop where
  lt : b < w.heap.size
  c0 : ∀ i, i < n → w.cell? ⟨b, off + i * 3, none⟩ = some (.bool (p i).1)
  c1 : ∀ i, i < n → w.cell? ⟨b, off + i * 3 + 1, none⟩ = some (.int .u64 ((p i).2.1 : Nat))
  c2 : ∀ i, i < n → w.cell? ⟨b, off + i * 3 + 2, none⟩ = some (.int .u64 ((p i).2.2 : Nat))
/-- A slice of n points. -/
def PtsAt (w : World) (a : Option Addr) (n : Nat) (p : Nat → P3) : Prop := n = 0 ∨ ∃ b off : Nat, a = some ⟨b, off, none⟩ ∧ PtsIn w b off n p
theorem PtsIn.below {w w1 : World} {B b off n : Nat} {p : Nat → P3} (t : PtsIn w b off n p) (hb : Below B w w1) (h : b < B) : PtsIn w1 b off n p :=
  ⟨Nat.lt_of_lt_of_le t.lt hb.size, fun i hi => by rw [(bcell hb).1 b _ h]; exact t.c0 i hi, fun i hi => by rw [(bcell hb).1 b _ h]; exact t.c1 i hi, fun i hi => by rw [(bcell hb).1 b _ h]; exact t.c2 i hi⟩
theorem PtsAt.below {w w1 : World} {a : Option Addr} {n : Nat} {p : Nat → P3} (t : PtsAt w a n p) (hb : Below w.heap.size w w1) : PtsAt w1 a n p := by
  rcases t with h | ⟨b, off, rfl, t⟩
  · exact Or.inl h
  · exact Or.inr ⟨b, off, rfl, t.below hb t.lt⟩
theorem PtsIn.at {w : World} {b off n : Nat} {p : Nat → P3} (t : PtsIn w b off n p) {i : Nat} (hi : i < n) : w.cell? ⟨b, off + i * 3, none⟩ = some (.bool (p i).1) ∧ w.cell? ⟨b, off + i * 3 + 1, none⟩ = some (.int .u64 ((p i).2.1 : Nat)) ∧ w.cell? ⟨b, off + i * 3 + 2, none⟩ = some (.int .u64 ((p i).2.2 : Nat)) := ⟨t.c0 i hi, t.c1 i hi, t.c2 i hi⟩
theorem PtsIn.at0 {w : World} {b n : Nat} {p : Nat → P3} (t : PtsIn w b 0 n p) {i : Nat} (hi : i < n) : w.cell? ⟨b, i * 3, none⟩ = some (.bool (p i).1) ∧ w.cell? ⟨b, i * 3 + 1, none⟩ = some (.int .u64 ((p i).2.1 : Nat)) ∧ w.cell? ⟨b, i * 3 + 2, none⟩ = some (.int .u64 ((p i).2.2 : Nat)) := by
  have h := t.at hi
  rw [Nat.zero_add] at h
  exact h
/-- All three numbers are words. -/
def P3w (p : P3) : Prop := p.2.1 < 18446744073709551616 ∧ p.2.2 < 18446744073709551616
end Go.Proofs.Ytlimcjpnendcdaa
