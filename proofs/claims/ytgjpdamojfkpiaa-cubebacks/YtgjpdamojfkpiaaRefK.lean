/-
  The document's own answers of layer 10 (package obolref10): numbers turned by keys, hashes.
-/
import Derived.Test.YtgjpdamojfkpiaaRefD
import Derived.Test.YtgjpdamojfkpiaaKubH
namespace Go.Proofs.Ytgjpdamojfkpiaa
open Go.RowKit Go.Proofs
set_option linter.unusedVariables false
set_option linter.unusedSimpArgs false
attribute [local go_sem ↓] Go.wp_at_zero Go.wp_at_succ

/-- What i rounds make of a number. -/
def itG (k x : Fin Ob.RE) : Nat → Fin Ob.RE
  | 0 => x
  | 1 => Ob.rndG k 7 x
  | 2 => Ob.rndG k 49 (Ob.rndG k 7 x)
  | _ => Ob.rndG k 343 (Ob.rndG k 49 (Ob.rndG k 7 x))
/-- A round's own number, and the one ahead of it. -/
def cuG : Nat → Fin Ob.RE
  | 0 => 1
  | 1 => 7
  | 2 => 49
  | _ => 343
theorem cuG_step (i : Nat) (hi : i < 3) : cuG i * Ob.toG 7 = cuG (i + 1) := by
  obtain rfl | rfl | rfl : i = 0 ∨ i = 1 ∨ i = 2 := by omega
  · decide +kernel
  · decide +kernel
  · decide +kernel
theorem itG_step (k x : Fin Ob.RE) (i : Nat) (hi : i < 3) : itG k x (i + 1) = Ob.rndG k (cuG (i + 1)) (itG k x i) := by
  obtain rfl | rfl | rfl : i = 0 ∨ i = 1 ∨ i = 2 := by omega
  · rfl
  · rfl
  · rfl
set_option maxHeartbeats 4000000 in
theorem kturnW (k x : Nat) (hk : k < 18446744073709551616) (hx : x < 18446744073709551616) (w : World) :
    Calls Try.prog 11 #[.int .u64 k, .int .u64 x] w fun e w' => e = .returned (.int .u64 ((Ob.turnG (Ob.toG k) (Ob.toG x)).val : Nat)) ∧ w = w' := by
  have hk' : Hid (k < 18446744073709551616) := hk
  have hx' : Hid (x < 18446744073709551616) := hx
  obtain ⟨T, hT⟩ : ∃ T, Hid ((Ob.turnG (Ob.toG k) (Ob.toG x)).val = T) := ⟨_, rfl⟩
  rw [hT.out]
  clear hk hx
  go_enter Try.func11, Try.ntmps11
  go_wp2
  go_loopw [6, 5, 1] (fun si sc sx wr => ∃ (i c y : Nat), i ≤ 3 ∧ si = .int .i64 i ∧ sc = .int .u64 (c : Nat) ∧ sx = .int .u64 (y : Nat) ∧ w = wr ∧ Hid (c < 18446744073709551616 ∧ y < 18446744073709551616 ∧ Ob.toG c = cuG i ∧ Ob.toG y = itG (Ob.toG k) (Ob.toG x) i)) (fun si _ _ _ => 3 - (intOf si).toNat)
  case atStart => exact ⟨0, 1, x, by omega, rfl, rfl, rfl, rfl, by decide, hx'.out, rfl, rfl⟩
  case round =>
    obtain ⟨i, c, y, hi, rfl, rfl, rfl, rfl, hI⟩ := hrel
    by_cases hlt : i < 3
    · have hlt' : (i : Int) < 3 := by omega
      obtain ⟨hc, hy, ec, ey⟩ := hI.out
      have c1 := gmulW c 7 hc (by decide)
      rw [ec, cuG_step i hlt] at c1
      have e1 : Ob.toG (cuG (i + 1)).val = cuG (i + 1) := Ob.toG_of_val _
      have l1 := G_lt (cuG (i + 1))
      obtain ⟨c', hc'⟩ : ∃ c', Hid ((cuG (i + 1)).val = c') := ⟨_, rfl⟩
      rw [hc'.out] at c1 e1 l1
      have c1 : ∀ w, Calls Try.prog 20 #[.int .u64 c, .int .u64 7] w fun e w' => e = .returned (.int .u64 (c' : Nat)) ∧ w = w' := c1
      have c2 := gplusW k c' hk'.out l1
      have e2 : Ob.toG (Ob.toG k + Ob.toG c').val = Ob.toG k + Ob.toG c' := Ob.toG_of_val _
      have l2 := G_lt (Ob.toG k + Ob.toG c')
      obtain ⟨p, hp⟩ : ∃ p, Hid ((Ob.toG k + Ob.toG c').val = p) := ⟨_, rfl⟩
      rw [hp.out] at c2 e2 l2
      have c3 := gplusW y p hy l2
      have e3 : Ob.toG (Ob.toG y + Ob.toG p).val = Ob.toG y + Ob.toG p := Ob.toG_of_val _
      have l3 := G_lt (Ob.toG y + Ob.toG p)
      obtain ⟨s, hs⟩ : ∃ s, Hid ((Ob.toG y + Ob.toG p).val = s) := ⟨_, rfl⟩
      rw [hs.out] at c3 e3 l3
      have c4 := gmulW s s l3 l3
      have e4 : Ob.toG (Ob.toG s * Ob.toG s).val = Ob.toG s * Ob.toG s := Ob.toG_of_val _
      have l4 := G_lt (Ob.toG s * Ob.toG s)
      obtain ⟨q, hq⟩ : ∃ q, Hid ((Ob.toG s * Ob.toG s).val = q) := ⟨_, rfl⟩
      rw [hq.out] at c4 e4 l4
      have c5 := gmulW s q l3 l4
      have e5 : Ob.toG (Ob.toG s * Ob.toG q).val = Ob.toG s * Ob.toG q := Ob.toG_of_val _
      have l5 := G_lt (Ob.toG s * Ob.toG q)
      obtain ⟨z, hz⟩ : ∃ z, Hid ((Ob.toG s * Ob.toG q).val = z) := ⟨_, rfl⟩
      rw [hz.out] at c5 e5 l5
      have hI' : Hid (c' < 18446744073709551616 ∧ z < 18446744073709551616 ∧ Ob.toG c' = cuG (i + 1) ∧ Ob.toG z = itG (Ob.toG k) (Ob.toG x) (i + 1)) := by
        refine ⟨l1, l5, e1, ?_⟩
        rw [e5, e4, e3, e2, ey, e1, itG_step _ _ i hlt]
        rfl
      clear hc hy ec ey e1 e2 e3 e4 e5 l1 l2 l3 l4 l5 hI hc' hp hs hq hz
      go_wp2_with (first | (go_at_call 20; first | (with_reducible refine (c1 _).mono ?_; rintro e w' ⟨rfl, rfl⟩) | (with_reducible refine (c4 _).mono ?_; rintro e w' ⟨rfl, rfl⟩) | (with_reducible refine (c5 _).mono ?_; rintro e w' ⟨rfl, rfl⟩)) | (go_at_call 24; first | (with_reducible refine (c2 _).mono ?_; rintro e w' ⟨rfl, rfl⟩) | (with_reducible refine (c3 _).mono ?_; rintro e w' ⟨rfl, rfl⟩)))
      go_roundw
      case rel => exact ⟨i + 1, c', z, by omega, by go_num, by first | rfl | trivial, by first | rfl | trivial, by first | rfl | trivial, hI'⟩
      case measure => (simp [intOf]; omega)
    · obtain rfl : i = 3 := by omega
      obtain ⟨hc, hy, ec, ey⟩ := hI.out
      have c6 := gplusW y k hy hk'.out
      rw [ey] at c6
      have e6 : itG (Ob.toG k) (Ob.toG x) 3 + Ob.toG k = Ob.turnG (Ob.toG k) (Ob.toG x) := rfl
      rw [e6] at c6
      rw [hT.out] at c6
      clear hc hy ec ey hI e6 hT
      go_wp2_with (first | (go_at_call 24; first | (with_reducible refine (c6 _).mono ?_; rintro e w' ⟨rfl, rfl⟩)))
      go_ret
      exact ⟨rfl, rfl⟩
theorem ktwo_core (a b t s r : Int) (w : World)
   (c1 : ∀ w, Calls Try.prog 11 #[.int .u64 a, .int .u64 b] w fun e w' => e = .returned (.int .u64 t) ∧ w = w')
   (c2 : ∀ w, Calls Try.prog 24 #[.int .u64 a, .int .u64 b] w fun e w' => e = .returned (.int .u64 s) ∧ w = w')
   (c3 : ∀ w, Calls Try.prog 24 #[.int .u64 t, .int .u64 s] w fun e w' => e = .returned (.int .u64 r) ∧ w = w') :
    Calls Try.prog 14 #[.int .u64 a, .int .u64 b] w fun e w' => e = .returned (.int .u64 r) ∧ w = w' := by
  go_enter Try.func14, Try.ntmps14
  go_wp2_with (first | (go_at_call 11; first | (with_reducible refine (c1 _).mono ?_; rintro e w' ⟨rfl, rfl⟩)) | (go_at_call 24; first | (with_reducible refine (c2 _).mono ?_; rintro e w' ⟨rfl, rfl⟩) | (with_reducible refine (c3 _).mono ?_; rintro e w' ⟨rfl, rfl⟩)))
  go_ret
  exact ⟨rfl, rfl⟩
theorem ktwoW (a b : Nat) (ha : a < 18446744073709551616) (hb : b < 18446744073709551616) (w : World) :
    Calls Try.prog 14 #[.int .u64 a, .int .u64 b] w fun e w' => e = .returned (.int .u64 ((Ob.twoG (Ob.toG a) (Ob.toG b)).val : Nat)) ∧ w = w' := by
  have c3 := gplusW (Ob.turnG (Ob.toG a) (Ob.toG b)).val (Ob.toG a + Ob.toG b).val (G_lt _) (G_lt _)
  rw [Ob.toG_of_val, Ob.toG_of_val] at c3
  exact ktwo_core _ _ _ _ _ w (kturnW a b ha hb) (gplusW a b ha hb) c3
theorem kthirdW (a : Nat) (ha : a < 18446744073709551616) (w : World) :
    Calls Try.prog 19 #[.int .u64 a] w fun e w' => e = .returned (.int .u64 ((Ob.thirdG (Ob.toG a)).val : Nat)) ∧ w = w' := by
  have c0 := fun w => rpow_any Ob.RE a 192153584191842987 w Ob.modRE ha (by decide)
  rw [Ob.third_of a _ rfl] at c0
  have c0 : ∀ w, Calls Try.prog 28 #[.int .u64 288230376287764481, .int .u64 a, .int .u64 192153584191842987] w fun e w' => e = .returned (.int .u64 ((Ob.thirdG (Ob.toG a)).val : Nat)) ∧ w = w' := c0
  obtain ⟨T, hT⟩ : ∃ T, Hid ((Ob.thirdG (Ob.toG a)).val = T) := ⟨_, rfl⟩
  rw [hT.out] at c0 ⊢
  go_enter Try.func19, Try.ntmps19
  go_wp2_with (first | (go_at_call 28; first | (with_reducible refine (c0 _).mono ?_; rintro e w' ⟨rfl, rfl⟩)))
  go_ret
  exact ⟨rfl, rfl⟩
end Go.Proofs.Ytgjpdamojfkpiaa
