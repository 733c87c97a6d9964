/-
  The walks of package cube: hashes of lists, a number told below R.
-/
import Derived.Test.YtgjpdamojfkpiabCubW
import Derived.Test.YtgjpdamojfkpiabWds
import Derived.Test.YtgjpdamojfkpiabLast
namespace Go.Proofs.Ytgjpdamojfkpiab
open Go.RowKit Go.Proofs
set_option linter.unusedVariables false
set_option linter.unusedSimpArgs false
attribute [local go_sem ↓] Go.wp_at_zero Go.wp_at_succ
attribute [local irreducible] Ob.twoG

theorem ufirstW (ad : Option Addr) (m c : Nat) (hm : m ≤ 1000000) (w : World) :
    Calls Try.prog 10 #[.slice ad m c] w fun e w' => e = .returned (.int .u64 m) ∧ w = w' := by
  have wm : IntKind.u64.wrap (m : Int) = (m : Int) := wrapNat m (by omega)
  clear hm
  go_enter Try.func10, Try.ntmps10
  go_wp2
  go_ret
  exact ⟨rfl, rfl⟩
theorem urestW (a : Nat) (ha : a < 18446744073709551616) (w : World) :
    Calls Try.prog 16 #[.int .u64 a] w fun e w' => e = .returned (.int .u64 ((Ob.toG a).val : Nat)) ∧ w = w' := by
  have c0 : ∀ w, Calls Try.prog 22 #[.int .u64 288230376287764481, .int .u64 a, .int .u64 0] w fun e w' => e = .returned (.int .u64 ((Ob.toG a).val : Nat)) ∧ w = w' := fun w => by
    have h := add_any Ob.RE a 0 w (by decide) ha (by decide)
    rw [Ob.addG, show Ob.toG 0 = 0 from rfl, Fin.add_zero] at h
    exact h
  generalize (Ob.toG a).val = r at *
  go_enter Try.func16, Try.ntmps16
  go_wp2_with (first | (go_at_call 22; first | (with_reducible refine (c0 _).mono ?_; rintro e w' ⟨rfl, rfl⟩)))
  go_ret
  exact ⟨rfl, rfl⟩
theorem uhash_core (a b r : Int) (w : World)
   (c1 : ∀ w, Calls Try.prog 9 #[.int .u64 a, .int .u64 b] w fun e w' => e = .returned (.int .u64 r) ∧ Below w.heap.size w w') :
    Calls Try.prog 17 #[.agg #[.int .u64 a, .int .u64 b]] w fun e w' => e = .returned (.int .u64 r) ∧ Below w.heap.size w w' := by
  go_enter Try.func17, Try.ntmps17
  go_wp2_with (first | (go_at_call 9; first | (with_reducible refine (c1 _).mono ?_; rintro e w_c1 ⟨rfl, b_c1⟩; have z_c1 := b_c1.size; (try simp only [szs] at z_c1))))
  go_ret
  exact ⟨rfl, by (repeat' (first | (with_reducible first | exact Below.refl _ _ | assumption | refine Below.alloc ?_ ?_ _ | refine Below.drew ?_ | refine below_drewN ?_ _ | refine Below.setCell ?_ ?_ _ | refine below_via (by with_reducible assumption) ?_ ?_) | omega | (simp only [szs]; omega) | (simp only [szs] at *; omega)))⟩
set_option maxHeartbeats 2000000 in
theorem umanyW (ad : Option Addr) (m c : Nat) (hm : m ≤ 1000000) (l : Nat → Nat) (hl : ∀ i, l i < 18446744073709551616) (w : World) (hs : SrcW w.heap.size w ad m l) :
    Calls Try.prog 5 #[.slice ad m c] w fun e w' => e = .returned (.int .u64 (hdN m l m : Nat)) ∧ Below w.heap.size w w' := by
  have hs' : Hid (SrcW w.heap.size w ad m l) := hs
  have hl' : Hid (∀ i, l i < 18446744073709551616) := hl
  have cf := ufirstW ad m c hm
  have h0 : Hid (hdN m l 0 = m) := hdN_zero m l (by omega)
  obtain ⟨T, hT⟩ : ∃ T, Hid (hdN m l m = T) := ⟨_, rfl⟩
  rw [hT.out]
  clear hs hl
  go_enter Try.func5, Try.ntmps5
  go_wp2_with (first | (go_at_call 10; first | (with_reducible refine (cf _).mono ?_; rintro e w' ⟨rfl, rfl⟩)))
  clear cf
  go_loopw [3, 10] (fun sh si wr => ∃ (i h : Nat), i ≤ m ∧ sh = .int .u64 h ∧ si = .int .i64 i ∧ Below w.heap.size w wr ∧ Hid (hdN m l i = h)) (fun sh si _ => m - (intOf si).toNat)
  case atStart => exact ⟨0, m, by omega, rfl, rfl, by (repeat' (first | (with_reducible first | exact Below.refl _ _ | assumption | refine Below.alloc ?_ ?_ _ | refine Below.drew ?_ | refine below_drewN ?_ _ | refine Below.setCell ?_ ?_ _ | refine below_via (by with_reducible assumption) ?_ ?_) | omega | (simp only [szs]; omega) | (simp only [szs] at *; omega))), h0⟩
  case round =>
    clear h0
    obtain ⟨i, h, hi, rfl, rfl, hB, hI⟩ := hrel
    have zB := hB.size
    by_cases hlt : i < m
    · have hlt' : (i : Int) < (m : Int) := by omega
      rcases hs'.out with hn | ⟨b, off, rfl, lb, wb⟩
      · omega
      have hc := (wb.below hB lb).at_ i hlt
      have ct := utwoW h (l i) (by rw [← hI.out]; exact hdN_lt _ _ _) (hl'.out i)
      unfold Ans at ct
      have e : Hid (hdN m l (i + 1) = (Ob.twoG (Ob.toG h) (Ob.toG (l i))).val) := by show _ = _; rw [hdN_succ, hI.out]
      generalize (Ob.twoG (Ob.toG h) (Ob.toG (l i))).val = h2 at *
      generalize l i = li at *
      clear hI lb wb
      go_wp2_with (first | (go_at_call 9; first | (with_reducible refine (ct _).mono ?_; rintro e w_ct ⟨rfl, b_ct⟩; have z_ct := b_ct.size; (try simp only [szs] at z_ct))))
      go_roundw
      case rel => exact ⟨i + 1, h2, by omega, by first | rfl | trivial, by go_num, by (repeat' (first | (with_reducible first | exact Below.refl _ _ | assumption | refine Below.alloc ?_ ?_ _ | refine Below.drew ?_ | refine below_drewN ?_ _ | refine Below.setCell ?_ ?_ _ | refine below_via (by with_reducible assumption) ?_ ?_) | omega | (simp only [szs]; omega) | (simp only [szs] at *; omega))), e⟩
      case measure => first | (simp [intOf]; done) | (simp [intOf]; omega)
    · obtain rfl : i = m := by omega
      have hlt' : ¬ (i : Int) < (i : Int) := by omega
      obtain rfl : h = T := hI.out.symm.trans hT.out
      go_wp2
      go_ret
      exact ⟨rfl, by (repeat' (first | (with_reducible first | exact Below.refl _ _ | assumption | refine Below.alloc ?_ ?_ _ | refine Below.drew ?_ | refine below_drewN ?_ _ | refine Below.setCell ?_ ?_ _ | refine below_via (by with_reducible assumption) ?_ ?_) | omega | (simp only [szs]; omega) | (simp only [szs] at *; omega)))⟩
theorem umany_nil (w : World) : Calls Try.prog 5 #[.slice none 0 0] w fun e w' => e = .returned (.int .u64 0) ∧ Below w.heap.size w w' :=
  umanyW none 0 0 (by omega) (fun _ => 0) (fun _ => by decide) w (Or.inl rfl)
theorem equalIn_Par (d : Nat) (w : World) (x y x' y' : Int) : (Op.equalIn (d + 2) 34 (.agg #[.int .u64 x, .int .u64 y]) (.agg #[.int .u64 x', .int .u64 y'])).run Try.prog w = .ok (x == x' && y == y') w := by
  have hA : ∀ w : World, (isAgg 24).run Try.prog w = .ok false w := fun w => by kernel_rfl
  have hI : ∀ (w : World) (a b : Int), (Op.equalIn (d + 1) 24 (.int .u64 a) (.int .u64 b)).run Try.prog w = .ok (a == b) w := fun w a b => run_equalIn_int w d _ _ .u64 a b Try.underlying24
  unfold Op.equalIn
  simp only [Sem.run_bind, run_underlying Try.underlying34]
  cases h : (x == x') with
  | true =>
    cases h2 : (y == y') with
    | true => simp [go_sem, hA, hI, List.range', h, h2]
    | false => simp [go_sem, hA, hI, List.range', h, h2]
  | false => simp [go_sem, hA, hI, List.range', h]
theorem equal_Par (w : World) (x y x' y' : Int) : (Op.equalIn 10000 34 (.agg #[.int .u64 x, .int .u64 y]) (.agg #[.int .u64 x', .int .u64 y'])).run Try.prog w = .ok (x == x' && y == y') w := equalIn_Par 9998 w x y x' y'
/-- What stands at a place that may be none: the hash ahead of it, and the number there. -/
def laH (m : Nat) (l : Nat → Nat) : Option Nat → Nat
  | none => 0
  | some j => hdN m l j
def laN (l : Nat → Nat) : Option Nat → Nat
  | none => 0
  | some j => (Ob.toG (l j)).val
def isAp : Option Nat → Bool
  | none => false
  | some _ => true
end Go.Proofs.Ytgjpdamojfkpiab
