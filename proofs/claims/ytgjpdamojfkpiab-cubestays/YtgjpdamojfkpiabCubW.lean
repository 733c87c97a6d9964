/-
  The walks of package cube: sums, the keys of rounds, numbers turned and turned back, the hash of two.
-/
import Derived.Test.YtgjpdamojfkpiabKubH
import Derived.Test.YtgjpdamojfkpiabModX
namespace Go.Proofs.Ytgjpdamojfkpiab
open Go.RowKit Go.Proofs
set_option linter.unusedVariables false
set_option linter.unusedSimpArgs false
attribute [local go_sem ↓] Go.wp_at_zero Go.wp_at_succ

/-- 7 to the place of a round. -/
def c7 : Nat → Fin Ob.RE
  | 0 => 7
  | 1 => 49
  | _ => 343
theorem cub_pow (s : Nat) : Ob.pow Ob.RE s 3 = (Ob.cubG (Ob.toG s)).val := by
  have e : Ob.cubG (Ob.toG s) = Ob.gpow (Ob.toG s) 3 := by
    show Ob.toG s * (Ob.toG s * Ob.toG s) = 1 * Ob.toG s * Ob.toG s * Ob.toG s
    generalize Ob.toG s = t
    grobner
  have h : (Ob.gpow (Ob.toG s) 3).val = (Ob.toG s).val ^ 3 % Ob.RE := Ob.gpow_val _ 3
  rw [e, h, Ob.toG_val, ← Nat.pow_mod, Ob.pow_yes Ob.modRE]
theorem sev_pow (i : Nat) (hi : i < 3) : Ob.pow Ob.RE 7 (i + 1) = (c7 i).val := by
  rw [Ob.pow_yes Ob.modRE]
  obtain rfl | rfl | rfl : i = 0 ∨ i = 1 ∨ i = 2 := by omega
  · decide +kernel
  · decide +kernel
  · decide +kernel

theorem usumW (a b : Nat) (ha : a < 18446744073709551616) (hb : b < 18446744073709551616) (w : World) :
    Calls Try.prog 15 #[.int .u64 a, .int .u64 b] w fun e w' => e = .returned (.int .u64 ((Ob.toG a + Ob.toG b).val : Nat)) ∧ w = w' := by
  have c0 : ∀ w, Calls Try.prog 22 #[.int .u64 288230376287764481, .int .u64 a, .int .u64 b] w fun e w' => e = .returned (.int .u64 ((Ob.toG a + Ob.toG b).val : Nat)) ∧ w = w' := fun w => by
    rw [← Ob.addG]
    exact add_any Ob.RE a b w (by decide) ha hb
  generalize (Ob.toG a + Ob.toG b).val = r at *
  go_enter Try.func15, Try.ntmps15
  go_wp2_with (first | (go_at_call 22; first | (with_reducible refine (c0 _).mono ?_; rintro e w' ⟨rfl, rfl⟩)))
  go_ret
  exact ⟨rfl, rfl⟩
theorem usubW (a b : Nat) (ha : a < 18446744073709551616) (hb : b < 18446744073709551616) (w : World) :
    Calls Try.prog 12 #[.int .u64 288230376287764481, .int .u64 a, .int .u64 b] w fun e w' => e = .returned (.int .u64 ((Ob.toG a - Ob.toG b).val : Nat)) ∧ w = w' := by
  rw [← Ob.subG]
  exact sub_any Ob.RE a b w (by decide) ha hb
theorem ucubW (s : Nat) (hs : s < 18446744073709551616) (w : World) :
    Calls Try.prog 13 #[.int .u64 288230376287764481, .int .u64 s, .int .u64 3] w fun e w' => e = .returned (.int .u64 ((Ob.cubG (Ob.toG s)).val : Nat)) ∧ ∃ n, w' = w.drewN n := by
  rw [← cub_pow]
  exact pow_any Ob.RE s 3 w (by decide) hs (by decide)
theorem uthirdW (s : Nat) (hs : s < 18446744073709551616) (w : World) :
    Calls Try.prog 13 #[.int .u64 288230376287764481, .int .u64 s, .int .u64 192153584191842987] w fun e w' => e = .returned (.int .u64 ((Ob.thirdG (Ob.toG s)).val : Nat)) ∧ ∃ n, w' = w.drewN n := by
  have h := pow_any Ob.RE s 192153584191842987 w (by decide) hs (by decide)
  rw [Ob.third_of s _ rfl] at h
  exact h
theorem ukey_core (k i j p r : Int) (hj : IntKind.u64.wrap (i + 1) = j) (w : World)
   (c0 : ∀ w, Calls Try.prog 13 #[.int .u64 288230376287764481, .int .u64 7, .int .u64 j] w fun e w' => e = .returned (.int .u64 p) ∧ ∃ n, w' = w.drewN n)
   (c1 : ∀ w, Calls Try.prog 15 #[.int .u64 k, .int .u64 p] w fun e w' => e = .returned (.int .u64 r) ∧ w = w') :
    Calls Try.prog 14 #[.int .u64 k, .int .u64 i] w fun e w' => e = .returned (.int .u64 r) ∧ ∃ n, w' = w.drewN n := by
  go_enter Try.func14, Try.ntmps14
  go_wp2_with (first | (go_at_call 13; first | (with_reducible refine (c0 _).mono ?_; rintro e w' ⟨rfl, nd, rfl⟩)) | (go_at_call 15; first | (with_reducible refine (c1 _).mono ?_; rintro e w' ⟨rfl, rfl⟩)))
  go_ret
  exact ⟨rfl, _, rfl⟩
theorem ukeyW (k i : Nat) (hk : k < 18446744073709551616) (hi : i < 3) (w : World) :
    Calls Try.prog 14 #[.int .u64 k, .int .u64 i] w fun e w' => e = .returned (.int .u64 ((Ob.toG k + c7 i).val : Nat)) ∧ ∃ n, w' = w.drewN n := by
  have c0 := fun w => pow_any Ob.RE 7 (i + 1) w (by decide) (by decide) (by omega)
  rw [sev_pow i hi] at c0
  have c1 := usumW k (c7 i).val hk (G_lt _)
  rw [Ob.toG_of_val] at c1
  exact ukey_core k i ((i + 1 : Nat) : Int) _ _ (by rw [Int.natCast_add]; exact wrapNat (i + 1) (by omega)) w c0 c1
theorem rnd_c7 (k x : Fin Ob.RE) (i : Nat) : Ob.cubG (x + (k + c7 i)) = Ob.rndG k (c7 i) x := rfl
/-- What i rounds make of a number. -/
def tuG (k x : Fin Ob.RE) : Nat → Fin Ob.RE
  | 0 => x
  | i + 1 => Ob.rndG k (c7 i) (tuG k x i)
theorem tuG_end (k x : Fin Ob.RE) : tuG k x 3 + k = Ob.turnG k x := rfl
set_option maxHeartbeats 4000000 in
theorem uturnW (k x : Nat) (hk : k < 18446744073709551616) (hx : x < 18446744073709551616) : Ans 8 #[.int .u64 k, .int .u64 x] (Ob.turnG (Ob.toG k) (Ob.toG x)).val := by
  intro w
  have hk' : Hid (k < 18446744073709551616) := hk
  have hx' : Hid (x < 18446744073709551616) := hx
  obtain ⟨T, hT⟩ : ∃ T, Hid ((Ob.turnG (Ob.toG k) (Ob.toG x)).val = T) := ⟨_, rfl⟩
  rw [hT.out]
  clear hk hx
  go_enter Try.func8, Try.ntmps8
  go_wp2
  go_loopw [1, 6] (fun sx si wr => ∃ (i y : Nat), i ≤ 3 ∧ si = .int .u64 i ∧ sx = .int .u64 (y : Nat) ∧ Below w.heap.size w wr ∧ Hid (y < 18446744073709551616 ∧ Ob.toG y = tuG (Ob.toG k) (Ob.toG x) i)) (fun _ si _ => 3 - (intOf si).toNat)
  case atStart => exact ⟨0, x, by omega, rfl, rfl, by (repeat' (first | (with_reducible first | exact Below.refl _ _ | assumption | refine Below.alloc ?_ ?_ _ | refine Below.drew ?_ | refine below_drewN ?_ _ | refine Below.setCell ?_ ?_ _ | refine below_via (by with_reducible assumption) ?_ ?_) | omega | (simp only [szs]; omega) | (simp only [szs] at *; omega))), hx'.out, rfl⟩
  case round =>
    obtain ⟨i, y, hi, rfl, rfl, hB, hI⟩ := hrel
    have zB := hB.size
    by_cases hlt : i < 3
    · have hlt' : (i : Int) < 3 := by omega
      obtain ⟨hy, ey⟩ := hI.out
      have c1 := ukeyW k i hk'.out hlt
      have e1 : Ob.toG (Ob.toG k + c7 i).val = Ob.toG k + c7 i := Ob.toG_of_val _
      have l1 := G_lt (Ob.toG k + c7 i)
      obtain ⟨p, hp⟩ : ∃ p, Hid ((Ob.toG k + c7 i).val = p) := ⟨_, rfl⟩
      rw [hp.out] at c1 e1 l1
      have c2 := usumW y p hy l1
      have e2 : Ob.toG (Ob.toG y + Ob.toG p).val = Ob.toG y + Ob.toG p := Ob.toG_of_val _
      have l2 := G_lt (Ob.toG y + Ob.toG p)
      obtain ⟨s, hs⟩ : ∃ s, Hid ((Ob.toG y + Ob.toG p).val = s) := ⟨_, rfl⟩
      rw [hs.out] at c2 e2 l2
      have c3 := ucubW s l2
      have e3 : Ob.toG (Ob.cubG (Ob.toG s)).val = Ob.cubG (Ob.toG s) := Ob.toG_of_val _
      have l3 := G_lt (Ob.cubG (Ob.toG s))
      obtain ⟨z, hz⟩ : ∃ z, Hid ((Ob.cubG (Ob.toG s)).val = z) := ⟨_, rfl⟩
      rw [hz.out] at c3 e3 l3
      have hI' : Hid (z < 18446744073709551616 ∧ Ob.toG z = tuG (Ob.toG k) (Ob.toG x) (i + 1)) := by
        refine ⟨l3, ?_⟩
        rw [e3, e2, e1, ey, rnd_c7]
        rfl
      have wi : IntKind.u64.wrap ((i : Int) + 1) = (i : Int) + 1 := wrapNat (i + 1) (by omega)
      clear hy ey e1 e2 e3 l1 l2 l3 hI hp hs hz
      go_wp2_with (first | (go_at_call 14; first | (with_reducible refine (c1 _).mono ?_; rintro e w' ⟨rfl, nd, rfl⟩)) | (go_at_call 15; first | (with_reducible refine (c2 _).mono ?_; rintro e w' ⟨rfl, rfl⟩)) | (go_at_call 13; first | (with_reducible refine (c3 _).mono ?_; rintro e w' ⟨rfl, nd, rfl⟩)))
      go_roundw
      case rel => exact ⟨i + 1, z, by omega, by first | rfl | go_num | (simp; done), by first | rfl | trivial, by (repeat' (first | (with_reducible first | exact Below.refl _ _ | assumption | refine Below.alloc ?_ ?_ _ | refine Below.drew ?_ | refine below_drewN ?_ _ | refine Below.setCell ?_ ?_ _ | refine below_via (by with_reducible assumption) ?_ ?_) | omega | (simp only [szs]; omega) | (simp only [szs] at *; omega))), hI'⟩
      case measure => first | (simp [intOf]; done) | (simp [intOf]; omega)
    · obtain rfl : i = 3 := by omega
      obtain ⟨hy, ey⟩ := hI.out
      have c6 := usumW y k hy hk'.out
      rw [ey, tuG_end, hT.out] at c6
      clear hy ey hI hT
      go_wp2_with (first | (go_at_call 15; first | (with_reducible refine (c6 _).mono ?_; rintro e w' ⟨rfl, rfl⟩)))
      go_ret
      exact ⟨rfl, by (repeat' (first | (with_reducible first | exact Below.refl _ _ | assumption | refine Below.alloc ?_ ?_ _ | refine Below.drew ?_ | refine below_drewN ?_ _ | refine Below.setCell ?_ ?_ _ | refine below_via (by with_reducible assumption) ?_ ?_) | omega | (simp only [szs]; omega) | (simp only [szs] at *; omega)))⟩
/-- What i rounds back make of a number. -/
def buG (k y : Fin Ob.RE) : Nat → Fin Ob.RE
  | 0 => y - k
  | i + 1 => Ob.unrG k (c7 (2 - i)) (buG k y i)
theorem buG_end (k y : Fin Ob.RE) : buG k y 3 = Ob.backG k y := rfl
theorem unr_c7 (k x : Fin Ob.RE) (i : Nat) : Ob.thirdG x - (k + c7 i) = Ob.unrG k (c7 i) x := rfl
set_option maxHeartbeats 4000000 in
theorem ubackW (k x : Nat) (hk : k < 18446744073709551616) (hx : x < 18446744073709551616) : Ans 7 #[.int .u64 k, .int .u64 x] (Ob.backG (Ob.toG k) (Ob.toG x)).val := by
  intro w
  have hk' : Hid (k < 18446744073709551616) := hk
  have c0 := usubW x k hx hk
  have e0 : Hid ((Ob.toG x - Ob.toG k).val = (buG (Ob.toG k) (Ob.toG x) 0).val) := rfl
  obtain ⟨T, hT⟩ : ∃ T, Hid ((Ob.backG (Ob.toG k) (Ob.toG x)).val = T) := ⟨_, rfl⟩
  rw [hT.out]
  generalize (Ob.toG x - Ob.toG k).val = x0 at *
  clear hk hx
  go_enter Try.func7, Try.ntmps7
  go_wp2_with (first | (go_at_call 12; first | (with_reducible refine (c0 _).mono ?_; rintro e w' ⟨rfl, rfl⟩)))
  clear c0
  go_loopw [5, 11] (fun sx si wr => ∃ (i y : Nat), i ≤ 3 ∧ si = .int .u64 i ∧ sx = .int .u64 (y : Nat) ∧ Below w.heap.size w wr ∧ Hid (y = (buG (Ob.toG k) (Ob.toG x) i).val)) (fun _ si _ => 3 - (intOf si).toNat)
  case atStart => exact ⟨0, x0, by omega, rfl, rfl, by (repeat' (first | (with_reducible first | exact Below.refl _ _ | assumption | refine Below.alloc ?_ ?_ _ | refine Below.drew ?_ | refine below_drewN ?_ _ | refine Below.setCell ?_ ?_ _ | refine below_via (by with_reducible assumption) ?_ ?_) | omega | (simp only [szs]; omega) | (simp only [szs] at *; omega))), e0⟩
  case round =>
    clear e0
    obtain ⟨i, y, hi, rfl, rfl, hB, hI⟩ := hrel
    have zB := hB.size
    by_cases hlt : i < 3
    · have hlt' : (i : Int) < 3 := by omega
      have hy : y < 18446744073709551616 := by rw [hI.out]; exact G_lt _
      have ey : Ob.toG y = buG (Ob.toG k) (Ob.toG x) i := by rw [hI.out]; exact Ob.toG_of_val _
      have c1 := uthirdW y hy
      have e1 : Ob.toG (Ob.thirdG (Ob.toG y)).val = Ob.thirdG (Ob.toG y) := Ob.toG_of_val _
      have l1 := G_lt (Ob.thirdG (Ob.toG y))
      obtain ⟨p, hp⟩ : ∃ p, Hid ((Ob.thirdG (Ob.toG y)).val = p) := ⟨_, rfl⟩
      rw [hp.out] at c1 e1 l1
      have c2 := ukeyW k (2 - i) hk'.out (by omega)
      have e2 : Ob.toG (Ob.toG k + c7 (2 - i)).val = Ob.toG k + c7 (2 - i) := Ob.toG_of_val _
      have l2 := G_lt (Ob.toG k + c7 (2 - i))
      obtain ⟨s, hs⟩ : ∃ s, Hid ((Ob.toG k + c7 (2 - i)).val = s) := ⟨_, rfl⟩
      rw [hs.out] at c2 e2 l2
      have ej : ((2 - i : Nat) : Int) = 2 - (i : Int) := by omega
      rw [ej] at c2
      have c3 := usubW p s l1 l2
      have e3 : Ob.toG (Ob.toG p - Ob.toG s).val = Ob.toG p - Ob.toG s := Ob.toG_of_val _
      have l3 := G_lt (Ob.toG p - Ob.toG s)
      obtain ⟨z, hz⟩ : ∃ z, Hid ((Ob.toG p - Ob.toG s).val = z) := ⟨_, rfl⟩
      rw [hz.out] at c3 e3 l3
      have hI' : Hid (z = (buG (Ob.toG k) (Ob.toG x) (i + 1)).val) := by
        show z = _
        rw [← hz.out, e2, e1, ey, unr_c7]
        rfl
      have wi : IntKind.u64.wrap ((i : Int) + 1) = (i : Int) + 1 := wrapNat (i + 1) (by omega)
      clear hy ey e1 e2 e3 l1 l2 l3 hI hp hs hz ej
      go_wp2_with (first | (go_at_call 13; first | (with_reducible refine (c1 _).mono ?_; rintro e w' ⟨rfl, nd, rfl⟩)) | (go_at_call 14; first | (with_reducible refine (c2 _).mono ?_; rintro e w' ⟨rfl, nd, rfl⟩)) | (go_at_call 12; first | (with_reducible refine (c3 _).mono ?_; rintro e w' ⟨rfl, rfl⟩)))
      go_roundw
      case rel => exact ⟨i + 1, z, by omega, by first | rfl | go_num | (simp; done), by first | rfl | trivial, by (repeat' (first | (with_reducible first | exact Below.refl _ _ | assumption | refine Below.alloc ?_ ?_ _ | refine Below.drew ?_ | refine below_drewN ?_ _ | refine Below.setCell ?_ ?_ _ | refine below_via (by with_reducible assumption) ?_ ?_) | omega | (simp only [szs]; omega) | (simp only [szs] at *; omega))), hI'⟩
      case measure => first | (simp [intOf]; done) | (simp [intOf]; omega)
    · obtain rfl : i = 3 := by omega
      obtain rfl : y = T := by rw [← hT.out, hI.out, buG_end]
      clear hI hT
      go_wp2
      go_ret
      exact ⟨rfl, by (repeat' (first | (with_reducible first | exact Below.refl _ _ | assumption | refine Below.alloc ?_ ?_ _ | refine Below.drew ?_ | refine below_drewN ?_ _ | refine Below.setCell ?_ ?_ _ | refine below_via (by with_reducible assumption) ?_ ?_) | omega | (simp only [szs]; omega) | (simp only [szs] at *; omega)))⟩
set_option maxHeartbeats 1000000 in
theorem utwo_core (a b t s r : Int) (w : World)
   (c1 : ∀ w, Calls Try.prog 8 #[.int .u64 a, .int .u64 b] w fun e w' => e = .returned (.int .u64 t) ∧ Below w.heap.size w w')
   (c2 : ∀ w, Calls Try.prog 15 #[.int .u64 a, .int .u64 b] w fun e w' => e = .returned (.int .u64 s) ∧ w = w')
   (c3 : ∀ w, Calls Try.prog 15 #[.int .u64 t, .int .u64 s] w fun e w' => e = .returned (.int .u64 r) ∧ w = w') :
    Calls Try.prog 9 #[.int .u64 a, .int .u64 b] w fun e w' => e = .returned (.int .u64 r) ∧ Below w.heap.size w w' := by
  go_enter Try.func9, Try.ntmps9
  go_wp2_with (first | (go_at_call 8; first | (with_reducible refine (c1 _).mono ?_; rintro e w_c1 ⟨rfl, b_c1⟩; have z_c1 := b_c1.size; (try simp only [szs] at z_c1))) | (go_at_call 15; first | (with_reducible refine (c2 _).mono ?_; rintro e w' ⟨rfl, rfl⟩) | (with_reducible refine (c3 _).mono ?_; rintro e w' ⟨rfl, rfl⟩)))
  go_ret
  exact ⟨rfl, by (repeat' (first | (with_reducible first | exact Below.refl _ _ | assumption | refine Below.alloc ?_ ?_ _ | refine Below.drew ?_ | refine below_drewN ?_ _ | refine Below.setCell ?_ ?_ _ | refine below_via (by with_reducible assumption) ?_ ?_) | omega | (simp only [szs]; omega) | (simp only [szs] at *; omega)))⟩
theorem utwoW (a b : Nat) (ha : a < 18446744073709551616) (hb : b < 18446744073709551616) : Ans 9 #[.int .u64 a, .int .u64 b] (Ob.twoG (Ob.toG a) (Ob.toG b)).val := by
  intro w
  have c3 := usumW (Ob.turnG (Ob.toG a) (Ob.toG b)).val (Ob.toG a + Ob.toG b).val (G_lt _) (G_lt _)
  rw [Ob.toG_of_val, Ob.toG_of_val] at c3
  exact utwo_core _ _ _ _ _ w (uturnW a b ha hb) (usumW a b ha hb) c3
end Go.Proofs.Ytgjpdamojfkpiab
