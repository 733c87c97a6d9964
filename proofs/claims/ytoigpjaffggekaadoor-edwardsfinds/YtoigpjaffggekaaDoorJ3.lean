/-
  Joined texts: The points of one Y: what X times X is, which X there are, odd and even; multiples bit by bit. The walks of the document's own answers for layer 7 (package obolref07): points, their sums and multiples. The points that numbers of 64 bits tell: Y, and whether X is odd. The walks of modular.someRoot and modular.Root. Numbers as bytes, the highest first. The walks of bytes as numbers: package words' Number, and the document's own. The walks of package edwards: the points of one Y, a point's bytes. The walks of the document's own answers for layer 7: a point's bytes. The walks of the document's own answers for layer 7: the square of X. Cells of variables, as a region's condition asks for them.
-/
import Derived.Test.YtoigpjaffggekaaDoorJ2
import Derived.Test.YtoigpjaffggekaaDoorJ1
import Derived.Laws.BytesArg
import Derived.OwnWalk
import Derived.WalkSpells
import Derived.Deep.DeepAppendRoom
import Derived.Laws.BitsAllLaws

namespace Ob
set_option linter.unusedVariables false
set_option linter.unusedSimpArgs false

/-- What X times X is, of a Y. -/
def gsqr (y : Fin RE) : Fin RE := (y * y - 1) * ginv (1 + 439 * (y * y))
theorem gsqr_den (y : Fin RE) : 1 + 439 * (y * y) ≠ 0 := fun e => by
  have hi := gi_sq
  have hd := d_nosq
  by_cases hy : y = 0
  · subst hy
    apply g1_ne
    generalize (439 : Fin RE) = d at e
    grobner
  · have hm := ginv_mul hy
    apply hd (gi * ginv y)
    generalize gi = i at *
    generalize ginv y = j at *
    generalize (439 : Fin RE) = d at *
    clear hd
    grobner
theorem on_sqr (x y : Fin RE) : onG (x, y) ↔ x * x = gsqr y := by
  have hm := ginv_mul (gsqr_den y)
  show y * y = 1 + x * x + 439 * (x * x * (y * y)) ↔ x * x = (y * y - 1) * ginv (1 + 439 * (y * y))
  generalize (439 : Fin RE) = d at *
  generalize ginv (1 + d * (y * y)) = j at *
  constructor
  · intro h; grobner
  · intro h; grobner
theorem G_roots {x z : Fin RE} (h : x * x = z * z) : x = z ∨ x = 0 - z := by
  have e : (x - z) * (x + z) = 0 := by grobner
  rcases Gmul_zero e with e | e
  · exact Or.inl (by grobner)
  · exact Or.inr (by grobner)
theorem Gneg_val {x : Fin RE} (h : x ≠ 0) : (0 - x).val = RE - x.val := by
  have h0 : x.val ≠ 0 := fun e => h (Fin.ext e)
  have h1 := x.isLt
  rw [Fin.val_sub]
  show (RE - x.val + 0) % RE = _
  rw [Nat.mod_eq_of_lt (by omega)]; omega
theorem Gneg_odd {x : Fin RE} (h : x ≠ 0) : (0 - x).val % 2 = 1 - x.val % 2 := by
  rw [Gneg_val h]
  have h1 := x.isLt
  show (288230376287764481 - x.val) % 2 = 1 - x.val % 2
  have : x.val < 288230376287764481 := h1
  omega
/-- One Y, and odd or even: one point. -/
theorem on_one {x z y : Fin RE} (hx : onG (x, y)) (hz : onG (z, y)) (h : x.val % 2 = z.val % 2) : x = z := by
  have e := ((on_sqr x y).mp hx).trans ((on_sqr z y).mp hz).symm
  rcases G_roots e with e | e
  · exact e
  · by_cases hz0 : z = 0
    · subst hz0; rw [e]; decide +kernel
    · rw [e, Gneg_odd hz0] at h; omega
theorem Sq_of {x s : Fin RE} (h : x * x = s) : Sq s.val := by
  by_cases hs : s = 0
  · subst hs; exact Or.inl rfl
  · refine Or.inr ?_
    have hx : x ≠ 0 := fun e => by subst e; apply hs; rw [← h]; grobner
    clear hs
    have hK : (R - 1) / 2 + (R - 1) / 2 = RE - 1 := by decide +kernel
    generalize (R - 1) / 2 = K at hK
    have e : gpow s K = 1 := by
      rw [← h, gpow_sq, ← gpow_add, hK]; exact fermatG x hx
    have e2 := gpow_val s K
    rw [e] at e2
    exact e2.symm
theorem Sq_root {s : Fin RE} (h : Sq s.val) : ∃ x : Fin RE, x * x = s := by
  have hr := (root_of_sq h).2
  refine ⟨toG (root s.val), Fin.ext ?_⟩
  rw [Fin.val_mul, toG_val, ← Nat.mul_mod]
  exact hr.trans (Nat.mod_eq_of_lt s.isLt)
theorem Sq_on (y : Fin RE) : Sq (gsqr y).val ↔ ∃ x, onG (x, y) :=
  ⟨fun h => by obtain ⟨x, hx⟩ := Sq_root h; exact ⟨x, (on_sqr x y).mpr hx⟩, fun ⟨x, hx⟩ => Sq_of ((on_sqr x y).mp hx)⟩
theorem on_opp {x y : Fin RE} (h : onG (x, y)) : onG (0 - x, y) := onG_neg h
/-- Of a Y that a point has there is the even one, and where X isn't 0 the odd one. -/
theorem on_parity {y : Fin RE} (h : ∃ x, onG (x, y)) (o : Nat) (ho : o < 2) (h0 : gsqr y ≠ 0 ∨ o = 0) : ∃ x, onG (x, y) ∧ x.val % 2 = o := by
  obtain ⟨x, hx⟩ := h
  by_cases hp : x.val % 2 = o
  · exact ⟨x, hx, hp⟩
  · have hx0 : x ≠ 0 := fun e => by
      subst e
      rcases h0 with h0 | h0
      · apply h0; rw [← (on_sqr 0 y).mp hx]; grobner
      · subst h0; exact hp rfl
    exact ⟨0 - x, on_opp hx, by rw [Gneg_odd hx0]; omega⟩
theorem no_odd {y x : Fin RE} (h : gsqr y = 0) (hx : onG (x, y)) : x = 0 := by
  have e := (on_sqr x y).mp hx
  rw [h] at e
  rcases Gmul_zero e with e | e <;> exact e
theorem gmul_bit {u : Ep} (hu : onG u) (n k : Nat) : gmul u (n / 2 ^ k) = gadd (gadd (gmul u (n / 2 ^ (k + 1))) (gmul u (n / 2 ^ (k + 1)))) (gmul u (n / 2 ^ k % 2)) := by
  have e : n / 2 ^ k = n / 2 ^ (k + 1) + n / 2 ^ (k + 1) + n / 2 ^ k % 2 := by
    rw [Nat.pow_succ, ← Nat.div_div_eq_div_mul]; omega
  rw [← gmul_add hu, ← gmul_add hu, ← e]
end Ob

namespace Go.Proofs.YtoigpjaffggekaaDoor
open Go.RowKit Go.Proofs
set_option linter.unusedVariables false
set_option linter.unusedSimpArgs false
attribute [local go_sem ↓] Go.wp_at_zero Go.wp_at_succ

theorem gmulF (a b : Fin Ob.RE) (w : World) :
    Calls Tryd.prog 32 #[.int .u64 (a.val : Nat), .int .u64 (b.val : Nat)] w fun e w' => e = .returned (.int .u64 ((a * b).val : Nat)) ∧ w = w' := by
  have := gmulW a.val b.val (Ob.G_word _) (Ob.G_word _) w
  rw [Ob.toG_of_val, Ob.toG_of_val] at this
  exact this
theorem gplusF (a b : Fin Ob.RE) (w : World) :
    Calls Tryd.prog 33 #[.int .u64 (a.val : Nat), .int .u64 (b.val : Nat)] w fun e w' => e = .returned (.int .u64 ((a + b).val : Nat)) ∧ w = w' := by
  have := gplusW a.val b.val (Ob.G_word _) (Ob.G_word _) w
  rw [Ob.toG_of_val, Ob.toG_of_val] at this
  exact this

set_option maxHeartbeats 1000000 in
theorem gis_core (x y a b c d f g : Int) (hx : x < 288230376287764481) (hy : y < 288230376287764481) (w : World)
   (c0 : ∀ w, Calls Tryd.prog 32 #[.int .u64 x, .int .u64 x] w fun e w' => e = .returned (.int .u64 a) ∧ w = w')
   (c1 : ∀ w, Calls Tryd.prog 32 #[.int .u64 y, .int .u64 y] w fun e w' => e = .returned (.int .u64 b) ∧ w = w')
   (c3 : ∀ w, Calls Tryd.prog 32 #[.int .u64 a, .int .u64 b] w fun e w' => e = .returned (.int .u64 c) ∧ w = w')
   (c4 : ∀ w, Calls Tryd.prog 32 #[.int .u64 439, .int .u64 c] w fun e w' => e = .returned (.int .u64 d) ∧ w = w')
   (c5 : ∀ w, Calls Tryd.prog 33 #[.int .u64 1, .int .u64 d] w fun e w' => e = .returned (.int .u64 f) ∧ w = w')
   (c6 : ∀ w, Calls Tryd.prog 33 #[.int .u64 a, .int .u64 f] w fun e w' => e = .returned (.int .u64 g) ∧ w = w') :
    Calls Tryd.prog 14 #[.agg #[.int .u64 x, .int .u64 y]] w fun e w' => e = .returned (.bool (b == g)) ∧ Below w.heap.size w w' := by
  have hx' : ¬ (288230376287764481 ≤ x) := by omega
  have hy' : ¬ (288230376287764481 ≤ y) := by omega
  go_enter Tryd.func14, Tryd.ntmps14
  go_wp2_with (first | (go_at_call 32; first | (with_reducible refine (c0 _).mono ?_; rintro e w' ⟨rfl, rfl⟩) | (with_reducible refine (c1 _).mono ?_; rintro e w' ⟨rfl, rfl⟩) | (with_reducible refine (c3 _).mono ?_; rintro e w' ⟨rfl, rfl⟩) | (with_reducible refine (c4 _).mono ?_; rintro e w' ⟨rfl, rfl⟩)) | (go_at_call 33; first | (with_reducible refine (c5 _).mono ?_; rintro e w' ⟨rfl, rfl⟩) | (with_reducible refine (c6 _).mono ?_; rintro e w' ⟨rfl, rfl⟩)))
  go_ret
  exact ⟨rfl, by (repeat' (first | (with_reducible first | exact Below.refl _ _ | assumption | refine Below.alloc ?_ ?_ _ | refine Below.drew ?_ | refine below_drewN ?_ _ | refine Below.setCell ?_ ?_ _ | refine below_via (by with_reducible assumption) ?_ ?_) | omega | (simp only [szs]; omega) | (simp only [szs] at *; omega)))⟩
set_option maxHeartbeats 1000000 in
theorem gis_big (x y : Int) (h : ¬ (x < 288230376287764481 ∧ y < 288230376287764481)) (w : World) :
    Calls Tryd.prog 14 #[.agg #[.int .u64 x, .int .u64 y]] w fun e w' => e = .returned (.bool false) ∧ Below w.heap.size w w' := by
  by_cases hx : x < 288230376287764481
  · have hx' : ¬ (288230376287764481 ≤ x) := by omega
    have hy' : 288230376287764481 ≤ y := by omega
    clear h
    go_enter Tryd.func14, Tryd.ntmps14
    go_wp2
    go_ret
    exact ⟨rfl, by (repeat' (first | (with_reducible first | exact Below.refl _ _ | assumption | refine Below.alloc ?_ ?_ _ | refine Below.drew ?_ | refine below_drewN ?_ _ | refine Below.setCell ?_ ?_ _ | refine below_via (by with_reducible assumption) ?_ ?_) | omega | (simp only [szs]; omega) | (simp only [szs] at *; omega)))⟩
  · have hx' : 288230376287764481 ≤ x := by omega
    clear h hx
    go_enter Tryd.func14, Tryd.ntmps14
    go_wp2
    go_ret
    exact ⟨rfl, by (repeat' (first | (with_reducible first | exact Below.refl _ _ | assumption | refine Below.alloc ?_ ?_ _ | refine Below.drew ?_ | refine below_drewN ?_ _ | refine Below.setCell ?_ ?_ _ | refine below_via (by with_reducible assumption) ?_ ?_) | omega | (simp only [szs]; omega) | (simp only [szs] at *; omega)))⟩
theorem gisW (x y : Nat) (hx : x < 18446744073709551616) (hy : y < 18446744073709551616) (w : World) :
    Calls Tryd.prog 14 #[.agg #[.int .u64 x, .int .u64 y]] w fun e w' => e = .returned (.bool (Ob.isG x y)) ∧ Below w.heap.size w w' := by
  by_cases hp : x < Ob.RE ∧ y < Ob.RE
  · have c4 := gmulW 439 (Ob.toG x * Ob.toG x * (Ob.toG y * Ob.toG y)).val (by decide) (Ob.G_word _)
    have c5 := gplusW 1 (439 * (Ob.toG x * Ob.toG x * (Ob.toG y * Ob.toG y))).val (by decide) (Ob.G_word _)
    rw [Ob.toG_of_val] at c4 c5
    have := gis_core x y _ _ _ _ _ _ (by have := hp.1; simp only [Ob.RE] at this; omega) (by have := hp.2; simp only [Ob.RE] at this; omega) w (gmulW x x hx hx) (gmulW y y hy hy) (gmulF _ _) c4 c5 (gplusF _ _)
    refine this.mono fun e w' ⟨h, hb⟩ => ⟨h.trans ?_, hb⟩
    rw [beq_valG]
    rw [Ob.toG_1]
    refine congrArg _ (congrArg _ ?_)
    simp only [Ob.isG, hp.1, hp.2, decide_true, Bool.true_and]
  · refine (gis_big x y (fun h => hp ⟨by simp only [Ob.RE]; omega, by simp only [Ob.RE]; omega⟩) w).mono fun e w' ⟨h, hb⟩ => ⟨h.trans ?_, hb⟩
    rw [isG_big hp]


set_option maxHeartbeats 4000000 in
theorem gsum_core (x1 y1 x2 y2 a b c k d f x y p q r s : Int) (w : World)
   (c0 : ∀ w, Calls Tryd.prog 32 #[.int .u64 x1, .int .u64 x2] w fun e w' => e = .returned (.int .u64 a) ∧ w = w')
   (c1 : ∀ w, Calls Tryd.prog 32 #[.int .u64 y1, .int .u64 y2] w fun e w' => e = .returned (.int .u64 b) ∧ w = w')
   (c2 : ∀ w, Calls Tryd.prog 32 #[.int .u64 a, .int .u64 b] w fun e w' => e = .returned (.int .u64 c) ∧ w = w')
   (c3 : ∀ w, Calls Tryd.prog 32 #[.int .u64 439, .int .u64 c] w fun e w' => e = .returned (.int .u64 k) ∧ w = w')
   (c4 : ∀ w, Calls Tryd.prog 32 #[.int .u64 x1, .int .u64 y2] w fun e w' => e = .returned (.int .u64 d) ∧ w = w')
   (c5 : ∀ w, Calls Tryd.prog 32 #[.int .u64 y1, .int .u64 x2] w fun e w' => e = .returned (.int .u64 f) ∧ w = w')
   (c6 : ∀ w, Calls Tryd.prog 33 #[.int .u64 d, .int .u64 f] w fun e w' => e = .returned (.int .u64 x) ∧ w = w')
   (c7 : ∀ w, Calls Tryd.prog 33 #[.int .u64 b, .int .u64 a] w fun e w' => e = .returned (.int .u64 y) ∧ w = w')
   (c8 : ∀ w, Calls Tryd.prog 33 #[.int .u64 1, .int .u64 k] w fun e w' => e = .returned (.int .u64 p) ∧ w = w')
   (c9 : ∀ w, Calls Tryd.prog 34 #[.int .u64 x, .int .u64 p] w fun e w' => e = .returned (.int .u64 r) ∧ w = w')
   (c10 : ∀ w, Calls Tryd.prog 35 #[.int .u64 1, .int .u64 k] w fun e w' => e = .returned (.int .u64 q) ∧ w = w')
   (c11 : ∀ w, Calls Tryd.prog 34 #[.int .u64 y, .int .u64 q] w fun e w' => e = .returned (.int .u64 s) ∧ w = w') :
    Calls Tryd.prog 30 #[.agg #[.int .u64 x1, .int .u64 y1], .agg #[.int .u64 x2, .int .u64 y2]] w fun e w' => e = .returned (.agg #[.int .u64 r, .int .u64 s]) ∧ Below w.heap.size w w' := by
  go_enter Tryd.func30, Tryd.ntmps30
  go_wp2
  go_region_held3 (fun w' => w'.cell? ⟨w.heap.size, 0, none⟩ = some (.int .u64 x1) ∧ w'.cell? ⟨w.heap.size, 1, none⟩ = some (.int .u64 y1) ∧ w'.cell? ⟨w.heap.size + 1, 0, none⟩ = some (.int .u64 x2) ∧ w'.cell? ⟨w.heap.size + 1, 1, none⟩ = some (.int .u64 y2)) (go_keep)
    ((first | (go_at_call 32; first | (with_reducible refine (c0 _).mono ?_; rintro e w' ⟨rfl, rfl⟩) | (with_reducible refine (c1 _).mono ?_; rintro e w' ⟨rfl, rfl⟩) | (with_reducible refine (c2 _).mono ?_; rintro e w' ⟨rfl, rfl⟩) | (with_reducible refine (c3 _).mono ?_; rintro e w' ⟨rfl, rfl⟩))))
  go_wp2
  go_region_held3 (fun w' => w'.cell? ⟨w.heap.size, 0, none⟩ = some (.int .u64 x1) ∧ w'.cell? ⟨w.heap.size, 1, none⟩ = some (.int .u64 y1) ∧ w'.cell? ⟨w.heap.size + 1, 0, none⟩ = some (.int .u64 x2) ∧ w'.cell? ⟨w.heap.size + 1, 1, none⟩ = some (.int .u64 y2)) (go_keep)
    ((first | (go_at_call 32; first | (with_reducible refine (c4 _).mono ?_; rintro e w' ⟨rfl, rfl⟩) | (with_reducible refine (c5 _).mono ?_; rintro e w' ⟨rfl, rfl⟩)) | (go_at_call 33; first | (with_reducible refine (c6 _).mono ?_; rintro e w' ⟨rfl, rfl⟩))))
  go_wp2
  go_region_held3 (fun w' => w'.cell? ⟨w.heap.size, 0, none⟩ = some (.int .u64 x1) ∧ w'.cell? ⟨w.heap.size, 1, none⟩ = some (.int .u64 y1) ∧ w'.cell? ⟨w.heap.size + 1, 0, none⟩ = some (.int .u64 x2) ∧ w'.cell? ⟨w.heap.size + 1, 1, none⟩ = some (.int .u64 y2)) (go_keep)
    ((first | (go_at_call 32; first | (with_reducible refine (c1 _).mono ?_; rintro e w' ⟨rfl, rfl⟩) | (with_reducible refine (c0 _).mono ?_; rintro e w' ⟨rfl, rfl⟩)) | (go_at_call 33; first | (with_reducible refine (c7 _).mono ?_; rintro e w' ⟨rfl, rfl⟩))))
  go_wp2_with (first | (go_at_call 33; first | (with_reducible refine (c8 _).mono ?_; rintro e w' ⟨rfl, rfl⟩)) | (go_at_call 34; first | (with_reducible refine (c9 _).mono ?_; rintro e w' ⟨rfl, rfl⟩) | (with_reducible refine (c11 _).mono ?_; rintro e w' ⟨rfl, rfl⟩)) | (go_at_call 35; first | (with_reducible refine (c10 _).mono ?_; rintro e w' ⟨rfl, rfl⟩)))
  exact bodyPost_ret (v := .agg #[.int .u64 r, .int .u64 s]) (by simp [results, Tryd.results30, go_sem, *]) rfl ⟨rfl, by (repeat' (first | (with_reducible first | exact Below.refl _ _ | assumption | refine Below.alloc ?_ ?_ _ | refine Below.drew ?_ | refine below_drewN ?_ _ | refine Below.setCell ?_ ?_ _ | refine below_via (by with_reducible assumption) ?_ ?_) | omega | (simp only [szs]; omega) | (simp only [szs] at *; omega)))⟩
theorem gsumW (u v : Ob.Ep) (w : World) :
    Calls Tryd.prog 30 #[edV u, edV v] w fun e w' => e = .returned (edV (Ob.gadd u v)) ∧ Below w.heap.size w w' := by
  have c3 := gmulW 439 (u.1 * v.1 * (u.2 * v.2)).val (by decide) (Ob.G_word _)
  rw [Ob.toG_of_val, Ob.toG_439] at c3
  have c8 := gplusW 1 (Ob.gk u v).val (by decide) (Ob.G_word _)
  have c10 := glessW 1 (Ob.gk u v).val (by decide) (Ob.G_word _)
  rw [Ob.toG_of_val, Ob.toG_1] at c8 c10
  have c9 := goverW (u.1 * v.2 + u.2 * v.1).val (1 + Ob.gk u v).val (Ob.G_word _) (Ob.G_word _)
  have c11 := goverW (u.2 * v.2 + u.1 * v.1).val (1 - Ob.gk u v).val (Ob.G_word _) (Ob.G_word _)
  rw [Ob.toG_of_val, Ob.toG_of_val] at c9 c11
  exact gsum_core _ _ _ _ _ _ _ _ _ _ _ _ _ _ _ _ w (gmulF _ _) (gmulF _ _) (gmulF _ _) c3 (gmulF _ _) (gmulF _ _) (gplusF _ _) (gplusF _ _) c8 c9 c10 c11

set_option maxHeartbeats 2000000 in
theorem gtimesW {u : Ob.Ep} (hu : Ob.onG u) (x : Nat) (hx : x < 18446744073709551616) (w : World) :
    Calls Tryd.prog 11 #[edV u, .int .u64 x] w fun e w' => e = .returned (edV (Ob.gmul u x)) ∧ Below w.heap.size w w' := by
  obtain ⟨T, hT⟩ : ∃ T, Hid (T = Ob.gmul u x) := ⟨_, rfl⟩
  rw [← hT.out]
  have on : Hid (Ob.onG u) := hu
  clear hu
  unfold edV
  go_enter Tryd.func11, Tryd.ntmps11
  go_wp2
  go_loopw [6] (fun si wr => ∃ (i : Nat) (p : Ob.Ep), i ≤ 64 ∧ si = .int .i64 i ∧
    Two wr w.heap.size (.int .u64 (u.1.val : Nat)) (.int .u64 (u.2.val : Nat)) ∧ Two wr (w.heap.size + 1) (.int .u64 0) (.int .u64 0) ∧ Two wr (w.heap.size + 1 + 1) (.int .u64 (p.1.val : Nat)) (.int .u64 (p.2.val : Nat)) ∧ Below w.heap.size w wr ∧ Hid (p = Ob.gmul u (x / 2 ^ (64 - i)))) (fun si _ => 64 - (intOf si).toNat)
  case atStart =>
    exact ⟨0, Ob.gzero, by omega, rfl, by (repeat' (first | (with_reducible first | assumption | exact Two.own (by with_reducible assumption) | refine Two.set ?_ _ _ | refine Own2.set ?_ _ _ | refine Two.drew ?_ | refine Two.drewN ?_ _ | refine Own2.drew ?_ | refine Own2.drewN ?_ _ | (refine Two.new ?_; simp only [szs]; done) | (refine Own2.new ?_; simp only [szs]; done) | refine Two.alloc ?_ _ | refine Own2.alloc ?_ _ | refine Two.far ?_ ?_ _ _ | refine Own2.far ?_ ?_ _ _ | refine Two.via (by with_reducible assumption) ?_ ?_ | refine Own2.via (by with_reducible assumption) ?_ ?_) | omega | (simp only [szs]; omega))), by (repeat' (first | (with_reducible first | assumption | exact Two.own (by with_reducible assumption) | refine Two.set ?_ _ _ | refine Own2.set ?_ _ _ | refine Two.drew ?_ | refine Two.drewN ?_ _ | refine Own2.drew ?_ | refine Own2.drewN ?_ _ | (refine Two.new ?_; simp only [szs]; done) | (refine Own2.new ?_; simp only [szs]; done) | refine Two.alloc ?_ _ | refine Own2.alloc ?_ _ | refine Two.far ?_ ?_ _ _ | refine Own2.far ?_ ?_ _ _ | refine Two.via (by with_reducible assumption) ?_ ?_ | refine Own2.via (by with_reducible assumption) ?_ ?_) | omega | (simp only [szs]; omega))), (show Two _ _ (.int .u64 0) (.int .u64 1) from by (repeat' (first | (with_reducible first | assumption | exact Two.own (by with_reducible assumption) | refine Two.set ?_ _ _ | refine Own2.set ?_ _ _ | refine Two.drew ?_ | refine Two.drewN ?_ _ | refine Own2.drew ?_ | refine Own2.drewN ?_ _ | (refine Two.new ?_; simp only [szs]; done) | (refine Own2.new ?_; simp only [szs]; done) | refine Two.alloc ?_ _ | refine Own2.alloc ?_ _ | refine Two.far ?_ ?_ _ _ | refine Own2.far ?_ ?_ _ _ | refine Two.via (by with_reducible assumption) ?_ ?_ | refine Own2.via (by with_reducible assumption) ?_ ?_) | omega | (simp only [szs]; omega)))), by (repeat' (first | (with_reducible first | exact Below.refl _ _ | assumption | refine Below.alloc ?_ ?_ _ | refine Below.drew ?_ | refine below_drewN ?_ _ | refine Below.setCell ?_ ?_ _ | refine below_via (by with_reducible assumption) ?_ ?_) | omega | (simp only [szs]; omega) | (simp only [szs] at *; omega))), by
      have : x / 2 ^ (64 - 0) = 0 := Nat.div_eq_of_lt (by omega)
      show Ob.gzero = Ob.gmul u (x / 2 ^ (64 - 0))
      rw [this]; rfl⟩
  case round =>
    obtain ⟨i, p, hi, rfl, t1, t2, t3, hB, hI⟩ := hrel
    have ⟨d1, d2, d3, d4, d5⟩ := t1
    have ⟨e1, e2, e3, e4, e5⟩ := t2
    have ⟨g1, g2, g3, g4, g5⟩ := t3
    by_cases hlt : i < 64
    · obtain ⟨k, hk⟩ : ∃ k, k + i = 63 := ⟨63 - i, by omega⟩
      have hyk : x / 2 ^ k < 18446744073709551616 := Nat.lt_of_le_of_lt (Nat.div_le_self _ _) (by omega)
      obtain ⟨t, ht⟩ : ∃ t : Nat, (x : Int) / 2 ^ (63 - i) = (t : Int) ∧ Hid (t = x / 2 ^ k) := ⟨x / 2 ^ k, by
        have : 63 - i = k := by omega
        rw [this]
        simp, rfl⟩
      obtain ⟨ht, htk⟩ := ht
      have hand := and_one t (by rw [htk.out]; exact hyk)
      have sq := gsumW p p
      have op : Hid (Ob.onG p) := by rw [hI.out]; exact Ob.onG_mul on.out _
      obtain ⟨q, hq⟩ : ∃ q, Hid (q = Ob.gadd p p) := ⟨_, rfl⟩
      rw [← hq.out] at sq
      unfold edV at sq
      have hI2 : Hid (Ob.gmul u (x / 2 ^ k) = Ob.gadd q (Ob.gmul u (t % 2))) := by
        have e1 : 64 - i = k + 1 := by omega
        have := hI.out
        rw [e1] at this
        show Ob.gmul u (x / 2 ^ k) = Ob.gadd q (Ob.gmul u (t % 2))
        rw [Ob.gmul_bit on.out, ← this, hq.out, ← htk.out]
      clear hI hyk htk
      have e2' : Hid (64 - (i + 1) = k) := by show 64 - (i + 1) = k; omega
      have ml := gsumW q u
      obtain ⟨s, hs⟩ : ∃ s, Hid (s = Ob.gadd q u) := ⟨_, rfl⟩
      rw [← hs.out] at ml
      unfold edV at ml
      have oq : Hid (Ob.onG q) := by rw [hq.out]; exact Ob.onG_add op.out op.out
      have r1 : t % 2 = 1 → s = Ob.gmul u (x / 2 ^ (64 - (i + 1))) := fun hbit => by
        rw [e2'.out, hI2.out, hbit, Ob.gmul_one on.out, hs.out]
      have r0 : t % 2 = 0 → q = Ob.gmul u (x / 2 ^ (64 - (i + 1))) := fun hbit => by
        rw [e2'.out, hI2.out, hbit]; exact (Ob.gadd_zero oq.out).symm
      by_cases hz : p = Ob.gzero
      · -- the double of 0 is 0, and is not taken
        have hqp : q = p := by rw [hq.out, hz]; exact Ob.gadd_zero Ob.onG_zero
        rw [hqp] at ml r0
        have z1 : ((p.1.val : Nat) : Int) = 0 := by rw [hz]; rfl
        have z2 : ((p.2.val : Nat) : Int) = 1 := by rw [hz]; rfl
        rw [z1, z2] at ml
        rw [z1] at g1
        rw [z2] at g2
        by_cases hbit : t % 2 = 1
        · have hb1 : ((t % 2 : Nat) : Int) = 1 := by omega
          rw [hb1] at hand
          have hr : Hid (s = Ob.gmul u (x / 2 ^ (64 - (i + 1)))) := r1 hbit
          clear hb1 r0 r1 hI2 hbit hz hqp hq hs oq op e2' sq z1 z2
          go_wp2_with (first | (go_at_call 30; first | (with_reducible refine (ml _).mono ?_; rintro e w_ml ⟨rfl, b_ml⟩; have z_ml := b_ml.size; (try simp only [szs] at z_ml); (try (have q_ml_0 := own2 b_ml (w.heap.size) (by first | omega | (simp only [szs]; omega)))); (try (have q_ml_1 := own2 b_ml (w.heap.size + 1) (by first | omega | (simp only [szs]; omega)))); (try (have q_ml_2 := own2 b_ml (w.heap.size + 1 + 1) (by first | omega | (simp only [szs]; omega)))))))
          go_roundw
          case rel => exact ⟨i + 1, s, by omega, by go_num, by (repeat' (first | (with_reducible first | assumption | exact Two.own (by with_reducible assumption) | refine Two.set ?_ _ _ | refine Own2.set ?_ _ _ | refine Two.drew ?_ | refine Two.drewN ?_ _ | refine Own2.drew ?_ | refine Own2.drewN ?_ _ | (refine Two.new ?_; simp only [szs]; done) | (refine Own2.new ?_; simp only [szs]; done) | refine Two.alloc ?_ _ | refine Own2.alloc ?_ _ | refine Two.far ?_ ?_ _ _ | refine Own2.far ?_ ?_ _ _ | refine Two.via (by with_reducible assumption) ?_ ?_ | refine Own2.via (by with_reducible assumption) ?_ ?_) | omega | (simp only [szs]; omega))), by (repeat' (first | (with_reducible first | assumption | exact Two.own (by with_reducible assumption) | refine Two.set ?_ _ _ | refine Own2.set ?_ _ _ | refine Two.drew ?_ | refine Two.drewN ?_ _ | refine Own2.drew ?_ | refine Own2.drewN ?_ _ | (refine Two.new ?_; simp only [szs]; done) | (refine Own2.new ?_; simp only [szs]; done) | refine Two.alloc ?_ _ | refine Own2.alloc ?_ _ | refine Two.far ?_ ?_ _ _ | refine Own2.far ?_ ?_ _ _ | refine Two.via (by with_reducible assumption) ?_ ?_ | refine Own2.via (by with_reducible assumption) ?_ ?_) | omega | (simp only [szs]; omega))), by (repeat' (first | (with_reducible first | assumption | exact Two.own (by with_reducible assumption) | refine Two.set ?_ _ _ | refine Own2.set ?_ _ _ | refine Two.drew ?_ | refine Two.drewN ?_ _ | refine Own2.drew ?_ | refine Own2.drewN ?_ _ | (refine Two.new ?_; simp only [szs]; done) | (refine Own2.new ?_; simp only [szs]; done) | refine Two.alloc ?_ _ | refine Own2.alloc ?_ _ | refine Two.far ?_ ?_ _ _ | refine Own2.far ?_ ?_ _ _ | refine Two.via (by with_reducible assumption) ?_ ?_ | refine Own2.via (by with_reducible assumption) ?_ ?_) | omega | (simp only [szs]; omega))), by (repeat' (first | (with_reducible first | exact Below.refl _ _ | assumption | refine Below.alloc ?_ ?_ _ | refine Below.drew ?_ | refine below_drewN ?_ _ | refine Below.setCell ?_ ?_ _ | refine below_via (by with_reducible assumption) ?_ ?_) | omega | (simp only [szs]; omega) | (simp only [szs] at *; omega))), hr⟩
          case measure => simp [intOf]; omega
        · have hb1 : ((t % 2 : Nat) : Int) = 0 := by omega
          rw [hb1] at hand
          have hr : Hid (p = Ob.gmul u (x / 2 ^ (64 - (i + 1)))) := r0 (by omega)
          clear hb1 r0 r1 hI2 hbit hz hqp hq hs oq op e2' sq z1 z2 ml
          go_wp2
          go_roundw
          case rel => exact ⟨i + 1, p, by omega, by go_num, by (repeat' (first | (with_reducible first | assumption | exact Two.own (by with_reducible assumption) | refine Two.set ?_ _ _ | refine Own2.set ?_ _ _ | refine Two.drew ?_ | refine Two.drewN ?_ _ | refine Own2.drew ?_ | refine Own2.drewN ?_ _ | (refine Two.new ?_; simp only [szs]; done) | (refine Own2.new ?_; simp only [szs]; done) | refine Two.alloc ?_ _ | refine Own2.alloc ?_ _ | refine Two.far ?_ ?_ _ _ | refine Own2.far ?_ ?_ _ _ | refine Two.via (by with_reducible assumption) ?_ ?_ | refine Own2.via (by with_reducible assumption) ?_ ?_) | omega | (simp only [szs]; omega))), by (repeat' (first | (with_reducible first | assumption | exact Two.own (by with_reducible assumption) | refine Two.set ?_ _ _ | refine Own2.set ?_ _ _ | refine Two.drew ?_ | refine Two.drewN ?_ _ | refine Own2.drew ?_ | refine Own2.drewN ?_ _ | (refine Two.new ?_; simp only [szs]; done) | (refine Own2.new ?_; simp only [szs]; done) | refine Two.alloc ?_ _ | refine Own2.alloc ?_ _ | refine Two.far ?_ ?_ _ _ | refine Own2.far ?_ ?_ _ _ | refine Two.via (by with_reducible assumption) ?_ ?_ | refine Own2.via (by with_reducible assumption) ?_ ?_) | omega | (simp only [szs]; omega))), by (repeat' (first | (with_reducible first | assumption | exact Two.own (by with_reducible assumption) | refine Two.set ?_ _ _ | refine Own2.set ?_ _ _ | refine Two.drew ?_ | refine Two.drewN ?_ _ | refine Own2.drew ?_ | refine Own2.drewN ?_ _ | (refine Two.new ?_; simp only [szs]; done) | (refine Own2.new ?_; simp only [szs]; done) | refine Two.alloc ?_ _ | refine Own2.alloc ?_ _ | refine Two.far ?_ ?_ _ _ | refine Own2.far ?_ ?_ _ _ | refine Two.via (by with_reducible assumption) ?_ ?_ | refine Own2.via (by with_reducible assumption) ?_ ?_) | omega | (simp only [szs]; omega))), by (repeat' (first | (with_reducible first | exact Below.refl _ _ | assumption | refine Below.alloc ?_ ?_ _ | refine Below.drew ?_ | refine below_drewN ?_ _ | refine Below.setCell ?_ ?_ _ | refine below_via (by with_reducible assumption) ?_ ?_) | omega | (simp only [szs]; omega) | (simp only [szs] at *; omega))), hr⟩
          case measure => simp [intOf]; omega
      · have hzz : ((((p.1.val : Nat) : Int) != 0) || (((p.2.val : Nat) : Int) != 1)) = true := by
          have := isZ_eq p
          unfold isZ at this
          rw [decide_eq_false hz] at this
          simp only [bne]
          rw [← Bool.not_and, this]; rfl
        clear hz
        have hx1 : (((p.1.val : Nat) : Int) = 0 ∧ ¬ ((p.2.val : Nat) : Int) = 1) ∨ ¬ (((p.1.val : Nat) : Int) = 0) := by
          simp only [Bool.or_eq_true, bne_iff_ne] at hzz
          omega
        clear hzz
        by_cases hbit : t % 2 = 1
        · have hb1 : ((t % 2 : Nat) : Int) = 1 := by omega
          rw [hb1] at hand
          have hr : Hid (s = Ob.gmul u (x / 2 ^ (64 - (i + 1)))) := r1 hbit
          clear hb1 r0 r1 hI2 hbit hq hs oq op e2'
          rcases hx1 with ⟨hx1, hx2⟩ | hx1
          · have hx1' : (((p.1.val : Nat) : Int) == 0) = true := by simpa using hx1
            have hx2' : (((p.2.val : Nat) : Int) == 1) = false := by simpa using hx2
            have hx3' : (((p.1.val : Nat) : Int) != 0) = false := by simpa using hx1
            have hx4' : (((p.2.val : Nat) : Int) != 1) = true := by simpa using hx2
            clear hx1
            go_wp2_with (first | (go_at_call 30; first | (with_reducible refine (sq _).mono ?_; rintro e w_sq ⟨rfl, b_sq⟩; have z_sq := b_sq.size; (try simp only [szs] at z_sq); (try (have q_sq_0 := own2 b_sq (w.heap.size) (by first | omega | (simp only [szs]; omega)))); (try (have q_sq_1 := own2 b_sq (w.heap.size + 1) (by first | omega | (simp only [szs]; omega)))); (try (have q_sq_2 := own2 b_sq (w.heap.size + 1 + 1) (by first | omega | (simp only [szs]; omega))))) | (with_reducible refine (ml _).mono ?_; rintro e w_ml ⟨rfl, b_ml⟩; have z_ml := b_ml.size; (try simp only [szs] at z_ml); (try (have q_ml_0 := own2 b_ml (w.heap.size) (by first | omega | (simp only [szs]; omega)))); (try (have q_ml_1 := own2 b_ml (w.heap.size + 1) (by first | omega | (simp only [szs]; omega)))); (try (have q_ml_2 := own2 b_ml (w.heap.size + 1 + 1) (by first | omega | (simp only [szs]; omega)))))))
            go_roundw
            case rel => exact ⟨i + 1, s, by omega, by go_num, by (repeat' (first | (with_reducible first | assumption | exact Two.own (by with_reducible assumption) | refine Two.set ?_ _ _ | refine Own2.set ?_ _ _ | refine Two.drew ?_ | refine Two.drewN ?_ _ | refine Own2.drew ?_ | refine Own2.drewN ?_ _ | (refine Two.new ?_; simp only [szs]; done) | (refine Own2.new ?_; simp only [szs]; done) | refine Two.alloc ?_ _ | refine Own2.alloc ?_ _ | refine Two.far ?_ ?_ _ _ | refine Own2.far ?_ ?_ _ _ | refine Two.via (by with_reducible assumption) ?_ ?_ | refine Own2.via (by with_reducible assumption) ?_ ?_) | omega | (simp only [szs]; omega))), by (repeat' (first | (with_reducible first | assumption | exact Two.own (by with_reducible assumption) | refine Two.set ?_ _ _ | refine Own2.set ?_ _ _ | refine Two.drew ?_ | refine Two.drewN ?_ _ | refine Own2.drew ?_ | refine Own2.drewN ?_ _ | (refine Two.new ?_; simp only [szs]; done) | (refine Own2.new ?_; simp only [szs]; done) | refine Two.alloc ?_ _ | refine Own2.alloc ?_ _ | refine Two.far ?_ ?_ _ _ | refine Own2.far ?_ ?_ _ _ | refine Two.via (by with_reducible assumption) ?_ ?_ | refine Own2.via (by with_reducible assumption) ?_ ?_) | omega | (simp only [szs]; omega))), by (repeat' (first | (with_reducible first | assumption | exact Two.own (by with_reducible assumption) | refine Two.set ?_ _ _ | refine Own2.set ?_ _ _ | refine Two.drew ?_ | refine Two.drewN ?_ _ | refine Own2.drew ?_ | refine Own2.drewN ?_ _ | (refine Two.new ?_; simp only [szs]; done) | (refine Own2.new ?_; simp only [szs]; done) | refine Two.alloc ?_ _ | refine Own2.alloc ?_ _ | refine Two.far ?_ ?_ _ _ | refine Own2.far ?_ ?_ _ _ | refine Two.via (by with_reducible assumption) ?_ ?_ | refine Own2.via (by with_reducible assumption) ?_ ?_) | omega | (simp only [szs]; omega))), by (repeat' (first | (with_reducible first | exact Below.refl _ _ | assumption | refine Below.alloc ?_ ?_ _ | refine Below.drew ?_ | refine below_drewN ?_ _ | refine Below.setCell ?_ ?_ _ | refine below_via (by with_reducible assumption) ?_ ?_) | omega | (simp only [szs]; omega) | (simp only [szs] at *; omega))), hr⟩
            case measure => simp [intOf]; omega
          · have hx3' : (((p.1.val : Nat) : Int) != 0) = true := by simpa using hx1
            go_wp2_with (first | (go_at_call 30; first | (with_reducible refine (sq _).mono ?_; rintro e w_sq ⟨rfl, b_sq⟩; have z_sq := b_sq.size; (try simp only [szs] at z_sq); (try (have q_sq_0 := own2 b_sq (w.heap.size) (by first | omega | (simp only [szs]; omega)))); (try (have q_sq_1 := own2 b_sq (w.heap.size + 1) (by first | omega | (simp only [szs]; omega)))); (try (have q_sq_2 := own2 b_sq (w.heap.size + 1 + 1) (by first | omega | (simp only [szs]; omega))))) | (with_reducible refine (ml _).mono ?_; rintro e w_ml ⟨rfl, b_ml⟩; have z_ml := b_ml.size; (try simp only [szs] at z_ml); (try (have q_ml_0 := own2 b_ml (w.heap.size) (by first | omega | (simp only [szs]; omega)))); (try (have q_ml_1 := own2 b_ml (w.heap.size + 1) (by first | omega | (simp only [szs]; omega)))); (try (have q_ml_2 := own2 b_ml (w.heap.size + 1 + 1) (by first | omega | (simp only [szs]; omega)))))))
            go_roundw
            case rel => exact ⟨i + 1, s, by omega, by go_num, by (repeat' (first | (with_reducible first | assumption | exact Two.own (by with_reducible assumption) | refine Two.set ?_ _ _ | refine Own2.set ?_ _ _ | refine Two.drew ?_ | refine Two.drewN ?_ _ | refine Own2.drew ?_ | refine Own2.drewN ?_ _ | (refine Two.new ?_; simp only [szs]; done) | (refine Own2.new ?_; simp only [szs]; done) | refine Two.alloc ?_ _ | refine Own2.alloc ?_ _ | refine Two.far ?_ ?_ _ _ | refine Own2.far ?_ ?_ _ _ | refine Two.via (by with_reducible assumption) ?_ ?_ | refine Own2.via (by with_reducible assumption) ?_ ?_) | omega | (simp only [szs]; omega))), by (repeat' (first | (with_reducible first | assumption | exact Two.own (by with_reducible assumption) | refine Two.set ?_ _ _ | refine Own2.set ?_ _ _ | refine Two.drew ?_ | refine Two.drewN ?_ _ | refine Own2.drew ?_ | refine Own2.drewN ?_ _ | (refine Two.new ?_; simp only [szs]; done) | (refine Own2.new ?_; simp only [szs]; done) | refine Two.alloc ?_ _ | refine Own2.alloc ?_ _ | refine Two.far ?_ ?_ _ _ | refine Own2.far ?_ ?_ _ _ | refine Two.via (by with_reducible assumption) ?_ ?_ | refine Own2.via (by with_reducible assumption) ?_ ?_) | omega | (simp only [szs]; omega))), by (repeat' (first | (with_reducible first | assumption | exact Two.own (by with_reducible assumption) | refine Two.set ?_ _ _ | refine Own2.set ?_ _ _ | refine Two.drew ?_ | refine Two.drewN ?_ _ | refine Own2.drew ?_ | refine Own2.drewN ?_ _ | (refine Two.new ?_; simp only [szs]; done) | (refine Own2.new ?_; simp only [szs]; done) | refine Two.alloc ?_ _ | refine Own2.alloc ?_ _ | refine Two.far ?_ ?_ _ _ | refine Own2.far ?_ ?_ _ _ | refine Two.via (by with_reducible assumption) ?_ ?_ | refine Own2.via (by with_reducible assumption) ?_ ?_) | omega | (simp only [szs]; omega))), by (repeat' (first | (with_reducible first | exact Below.refl _ _ | assumption | refine Below.alloc ?_ ?_ _ | refine Below.drew ?_ | refine below_drewN ?_ _ | refine Below.setCell ?_ ?_ _ | refine below_via (by with_reducible assumption) ?_ ?_) | omega | (simp only [szs]; omega) | (simp only [szs] at *; omega))), hr⟩
            case measure => simp [intOf]; omega
        · have hb1 : ((t % 2 : Nat) : Int) = 0 := by omega
          rw [hb1] at hand
          have hr : Hid (q = Ob.gmul u (x / 2 ^ (64 - (i + 1)))) := r0 (by omega)
          clear hb1 r0 r1 hI2 hbit hq hs oq op e2' ml
          rcases hx1 with ⟨hx1, hx2⟩ | hx1
          · have hx1' : (((p.1.val : Nat) : Int) == 0) = true := by simpa using hx1
            have hx2' : (((p.2.val : Nat) : Int) == 1) = false := by simpa using hx2
            have hx3' : (((p.1.val : Nat) : Int) != 0) = false := by simpa using hx1
            have hx4' : (((p.2.val : Nat) : Int) != 1) = true := by simpa using hx2
            clear hx1
            go_wp2_with (first | (go_at_call 30; first | (with_reducible refine (sq _).mono ?_; rintro e w_sq ⟨rfl, b_sq⟩; have z_sq := b_sq.size; (try simp only [szs] at z_sq); (try (have q_sq_0 := own2 b_sq (w.heap.size) (by first | omega | (simp only [szs]; omega)))); (try (have q_sq_1 := own2 b_sq (w.heap.size + 1) (by first | omega | (simp only [szs]; omega)))); (try (have q_sq_2 := own2 b_sq (w.heap.size + 1 + 1) (by first | omega | (simp only [szs]; omega)))))))
            go_roundw
            case rel => exact ⟨i + 1, q, by omega, by go_num, by (repeat' (first | (with_reducible first | assumption | exact Two.own (by with_reducible assumption) | refine Two.set ?_ _ _ | refine Own2.set ?_ _ _ | refine Two.drew ?_ | refine Two.drewN ?_ _ | refine Own2.drew ?_ | refine Own2.drewN ?_ _ | (refine Two.new ?_; simp only [szs]; done) | (refine Own2.new ?_; simp only [szs]; done) | refine Two.alloc ?_ _ | refine Own2.alloc ?_ _ | refine Two.far ?_ ?_ _ _ | refine Own2.far ?_ ?_ _ _ | refine Two.via (by with_reducible assumption) ?_ ?_ | refine Own2.via (by with_reducible assumption) ?_ ?_) | omega | (simp only [szs]; omega))), by (repeat' (first | (with_reducible first | assumption | exact Two.own (by with_reducible assumption) | refine Two.set ?_ _ _ | refine Own2.set ?_ _ _ | refine Two.drew ?_ | refine Two.drewN ?_ _ | refine Own2.drew ?_ | refine Own2.drewN ?_ _ | (refine Two.new ?_; simp only [szs]; done) | (refine Own2.new ?_; simp only [szs]; done) | refine Two.alloc ?_ _ | refine Own2.alloc ?_ _ | refine Two.far ?_ ?_ _ _ | refine Own2.far ?_ ?_ _ _ | refine Two.via (by with_reducible assumption) ?_ ?_ | refine Own2.via (by with_reducible assumption) ?_ ?_) | omega | (simp only [szs]; omega))), by (repeat' (first | (with_reducible first | assumption | exact Two.own (by with_reducible assumption) | refine Two.set ?_ _ _ | refine Own2.set ?_ _ _ | refine Two.drew ?_ | refine Two.drewN ?_ _ | refine Own2.drew ?_ | refine Own2.drewN ?_ _ | (refine Two.new ?_; simp only [szs]; done) | (refine Own2.new ?_; simp only [szs]; done) | refine Two.alloc ?_ _ | refine Own2.alloc ?_ _ | refine Two.far ?_ ?_ _ _ | refine Own2.far ?_ ?_ _ _ | refine Two.via (by with_reducible assumption) ?_ ?_ | refine Own2.via (by with_reducible assumption) ?_ ?_) | omega | (simp only [szs]; omega))), by (repeat' (first | (with_reducible first | exact Below.refl _ _ | assumption | refine Below.alloc ?_ ?_ _ | refine Below.drew ?_ | refine below_drewN ?_ _ | refine Below.setCell ?_ ?_ _ | refine below_via (by with_reducible assumption) ?_ ?_) | omega | (simp only [szs]; omega) | (simp only [szs] at *; omega))), hr⟩
            case measure => simp [intOf]; omega
          · have hx3' : (((p.1.val : Nat) : Int) != 0) = true := by simpa using hx1
            go_wp2_with (first | (go_at_call 30; first | (with_reducible refine (sq _).mono ?_; rintro e w_sq ⟨rfl, b_sq⟩; have z_sq := b_sq.size; (try simp only [szs] at z_sq); (try (have q_sq_0 := own2 b_sq (w.heap.size) (by first | omega | (simp only [szs]; omega)))); (try (have q_sq_1 := own2 b_sq (w.heap.size + 1) (by first | omega | (simp only [szs]; omega)))); (try (have q_sq_2 := own2 b_sq (w.heap.size + 1 + 1) (by first | omega | (simp only [szs]; omega)))))))
            go_roundw
            case rel => exact ⟨i + 1, q, by omega, by go_num, by (repeat' (first | (with_reducible first | assumption | exact Two.own (by with_reducible assumption) | refine Two.set ?_ _ _ | refine Own2.set ?_ _ _ | refine Two.drew ?_ | refine Two.drewN ?_ _ | refine Own2.drew ?_ | refine Own2.drewN ?_ _ | (refine Two.new ?_; simp only [szs]; done) | (refine Own2.new ?_; simp only [szs]; done) | refine Two.alloc ?_ _ | refine Own2.alloc ?_ _ | refine Two.far ?_ ?_ _ _ | refine Own2.far ?_ ?_ _ _ | refine Two.via (by with_reducible assumption) ?_ ?_ | refine Own2.via (by with_reducible assumption) ?_ ?_) | omega | (simp only [szs]; omega))), by (repeat' (first | (with_reducible first | assumption | exact Two.own (by with_reducible assumption) | refine Two.set ?_ _ _ | refine Own2.set ?_ _ _ | refine Two.drew ?_ | refine Two.drewN ?_ _ | refine Own2.drew ?_ | refine Own2.drewN ?_ _ | (refine Two.new ?_; simp only [szs]; done) | (refine Own2.new ?_; simp only [szs]; done) | refine Two.alloc ?_ _ | refine Own2.alloc ?_ _ | refine Two.far ?_ ?_ _ _ | refine Own2.far ?_ ?_ _ _ | refine Two.via (by with_reducible assumption) ?_ ?_ | refine Own2.via (by with_reducible assumption) ?_ ?_) | omega | (simp only [szs]; omega))), by (repeat' (first | (with_reducible first | assumption | exact Two.own (by with_reducible assumption) | refine Two.set ?_ _ _ | refine Own2.set ?_ _ _ | refine Two.drew ?_ | refine Two.drewN ?_ _ | refine Own2.drew ?_ | refine Own2.drewN ?_ _ | (refine Two.new ?_; simp only [szs]; done) | (refine Own2.new ?_; simp only [szs]; done) | refine Two.alloc ?_ _ | refine Own2.alloc ?_ _ | refine Two.far ?_ ?_ _ _ | refine Own2.far ?_ ?_ _ _ | refine Two.via (by with_reducible assumption) ?_ ?_ | refine Own2.via (by with_reducible assumption) ?_ ?_) | omega | (simp only [szs]; omega))), by (repeat' (first | (with_reducible first | exact Below.refl _ _ | assumption | refine Below.alloc ?_ ?_ _ | refine Below.drew ?_ | refine below_drewN ?_ _ | refine Below.setCell ?_ ?_ _ | refine below_via (by with_reducible assumption) ?_ ?_) | omega | (simp only [szs]; omega) | (simp only [szs] at *; omega))), hr⟩
            case measure => simp [intOf]; omega
    · have hi64 : i = 64 := by omega
      have hn : Hid (p = T) := by
        have := hI.out
        rw [hi64] at this
        show p = T
        rw [hT.out]
        simpa using this
      go_wp2
      exact bodyPost_ret (v := .agg #[.int .u64 (p.1.val : Nat), .int .u64 (p.2.val : Nat)]) (by simp [results, Tryd.results11, go_sem, *]) rfl ⟨by rw [← hn.out], by (repeat' (first | (with_reducible first | exact Below.refl _ _ | assumption | refine Below.alloc ?_ ?_ _ | refine Below.drew ?_ | refine below_drewN ?_ _ | refine Below.setCell ?_ ?_ _ | refine below_via (by with_reducible assumption) ?_ ?_) | omega | (simp only [szs]; omega) | (simp only [szs] at *; omega)))⟩

end Go.Proofs.YtoigpjaffggekaaDoor

namespace Ob
set_option linter.unusedVariables false
set_option linter.unusedSimpArgs false

/-- The number that a point's bytes tell. -/
def edN (u : Ep) : Nat := if u.1.val % 2 = 1 then u.2.val + 9223372036854775808 else u.2.val
theorem RE_small (x : Fin RE) : x.val < 288230376287764481 := x.isLt
theorem edN_lt (u : Ep) : edN u < 18446744073709551616 := by
  have := RE_small u.2
  unfold edN; split <;> omega
def lowY (n : Nat) : Nat := n % 9223372036854775808
def topO (n : Nat) : Nat := n / 9223372036854775808
theorem edN_low (u : Ep) : lowY (edN u) = u.2.val := by
  have := RE_small u.2
  unfold edN lowY; split <;> omega
theorem edN_top (u : Ep) : topO (edN u) = u.1.val % 2 := by
  have := RE_small u.2
  unfold edN topO; split <;> omega
theorem edN_of (u : Ep) (n : Nat) (h1 : u.2.val = lowY n) (h2 : u.1.val % 2 = topO n) (hn : n < 18446744073709551616) : edN u = n := by
  have := RE_small u.2
  unfold edN lowY topO at *
  split <;> omega
/-- The X that isn't above R / 2, of a number as Y. -/
def rtX (y : Nat) : Nat := root (gsqr (toG y)).val
theorem rtX_le {y : Nat} (h : Sq (gsqr (toG y)).val) : rtX y ≤ 144115188143882240 := (root_of_sq h).1
theorem rtX_lt {y : Nat} (h : Sq (gsqr (toG y)).val) : rtX y < RE := Nat.lt_of_le_of_lt (rtX_le h) (by decide)
theorem rtX_on {y : Nat} (h : Sq (gsqr (toG y)).val) : onG (toG (rtX y), toG y) := by
  refine (on_sqr _ _).mpr (Fin.ext ?_)
  rw [Fin.val_mul, toG_val, ← Nat.mul_mod]
  exact (root_of_sq h).2.trans (Nat.mod_eq_of_lt (gsqr (toG y)).isLt)
theorem rtX_zero {y : Nat} (h : Sq (gsqr (toG y)).val) : rtX y = 0 ↔ gsqr (toG y) = 0 := by
  have hv : (toG (rtX y)).val = rtX y := Nat.mod_eq_of_lt (rtX_lt h)
  constructor
  · intro e
    have := (on_sqr _ _).mp (rtX_on h)
    rw [e] at this
    rw [← this, show toG 0 = 0 from rfl]; grobner
  · intro e
    have := no_odd e (rtX_on h)
    rw [← hv, this]; rfl
/-- The X that is told. -/
def rdX (n : Nat) : Nat := if rtX (lowY n) % 2 = topO n then rtX (lowY n) else 288230376287764481 - rtX (lowY n)
/-- There is a point of which that number tells. -/
def Has (n : Nat) : Prop := lowY n < 288230376287764481 ∧ Sq (gsqr (toG (lowY n))).val ∧ (gsqr (toG (lowY n)) ≠ 0 ∨ topO n = 0)
theorem rd_yes {n : Nat} (hn : n < 18446744073709551616) (h : Has n) : ∃ u : Ep, onG u ∧ u.2.val = lowY n ∧ u.1.val % 2 = topO n ∧ u.1.val = rdX n := by
  obtain ⟨hy, hs, h0⟩ := h
  have ho : topO n < 2 := by unfold topO; omega
  have hyv : (toG (lowY n)).val = lowY n := Nat.mod_eq_of_lt hy
  have hv : (toG (rtX (lowY n))).val = rtX (lowY n) := Nat.mod_eq_of_lt (rtX_lt hs)
  have hon := rtX_on hs
  by_cases hp : rtX (lowY n) % 2 = topO n
  · refine ⟨_, hon, hyv, ?_, ?_⟩
    · show (toG (rtX (lowY n))).val % 2 = _
      rw [hv]; exact hp
    · show (toG (rtX (lowY n))).val = _
      rw [hv, rdX, if_pos hp]
  · have hx : toG (rtX (lowY n)) ≠ 0 := fun e => by
      have e0 : rtX (lowY n) = 0 := by rw [← hv, e]; rfl
      have := (rtX_zero hs).mp e0
      rcases h0 with h0 | h0
      · exact h0 this
      · rw [e0] at hp; omega
    refine ⟨_, on_opp hon, hyv, ?_, ?_⟩
    · show (0 - toG (rtX (lowY n))).val % 2 = _
      rw [Gneg_odd hx, hv]; omega
    · show (0 - toG (rtX (lowY n))).val = _
      rw [Gneg_val hx, hv, rdX, if_neg hp]
theorem rd_no {n : Nat} (hn : n < 18446744073709551616) (h : ¬ Has n) (hs : Sq (gsqr (toG (lowY n))).val) : isG (rdX n) (lowY n) = false := by
  cases hc : isG (rdX n) (lowY n) with
  | false => rfl
  | true =>
    exfalso
    apply h
    simp only [isG, Bool.and_eq_true, decide_eq_true_eq] at hc
    obtain ⟨⟨h1, h2⟩, _⟩ := hc
    refine ⟨h2, hs, ?_⟩
    by_cases h0 : gsqr (toG (lowY n)) = 0
    · refine Or.inr ?_
      have e0 := (rtX_zero hs).mpr h0
      rw [rdX, e0] at h1
      split at h1
      · omega
      · exact absurd h1 (by decide)
    · exact Or.inl h0
theorem rdX_lt {n : Nat} (hs : Sq (gsqr (toG (lowY n))).val) : rdX n < 18446744073709551616 := by
  have := rtX_le hs
  unfold rdX; split <;> omega
/-- A point's number tells it. -/
theorem has_edN {u : Ep} (hu : onG u) : Has (edN u) ∧ rdX (edN u) = u.1.val := by
  have hl := edN_low u
  have ht := edN_top u
  have hg : toG (lowY (edN u)) = u.2 := by rw [hl, toG_of_val]
  have hs : Sq (gsqr u.2).val := (Sq_on u.2).mpr ⟨u.1, hu⟩
  have hH : Has (edN u) := by
    refine ⟨by rw [hl]; exact RE_small _, by rw [hg]; exact hs, ?_⟩
    rw [hg, ht]
    by_cases h0 : gsqr u.2 = 0
    · refine Or.inr ?_
      rw [no_odd h0 hu]; rfl
    · exact Or.inl h0
  refine ⟨hH, ?_⟩
  obtain ⟨v, hv, h1, h2, h3⟩ := rd_yes (edN_lt u) hH
  rw [← h3]
  have e2 : v.2 = u.2 := Fin.ext (by rw [h1, hl])
  have hv' : onG (v.1, u.2) := by rw [← e2]; exact hv
  rw [on_one hv' hu (by rw [h2, ht])]
/-- The point of a Y whose X isn't above R / 2. -/
def lowP (y : Nat) : Ep := (toG (rtX y), toG y)
/-- It is there, and four times it isn't 0. -/
def Good (y : Nat) : Prop := Sq (gsqr (toG y)).val ∧ gsqr (toG y) ≠ 0 ∧ toG y ≠ 0
theorem good_four {y : Nat} (h : Sq (gsqr (toG y)).val) : gmul (lowP y) 4 ≠ gzero ↔ Good y := by
  show ¬ gmul (toG (rtX y), toG y) 4 = gzero ↔ _
  rw [four_zero (rtX_on h)]
  have hv : (toG (rtX y)).val = rtX y := Nat.mod_eq_of_lt (rtX_lt h)
  have hz : toG (rtX y) = 0 ↔ gsqr (toG y) = 0 := by
    rw [← rtX_zero h]
    constructor
    · intro e; rw [← hv, e]; rfl
    · intro e; rw [e]; rfl
  show ¬ (toG (rtX y) = 0 ∨ toG y = 0) ↔ _
  rw [hz]
  unfold Good
  constructor
  · intro hh; exact ⟨h, fun e => hh (Or.inl e), fun e => hh (Or.inr e)⟩
  · rintro ⟨_, h1, h2⟩ (e | e)
    · exact h1 e
    · exact h2 e
end Ob
namespace Ob
/-- The same, reckoned. -/
def goodB (y : Nat) : Bool := (decide ((gsqr (toG y)).val % R = 0) || decide ((gsqr (toG y)).val ^ ((R - 1) / 2) % R = 1)) && (decide (gsqr (toG y) ≠ 0) && decide (toG y ≠ 0))
theorem goodB_iff (y : Nat) : goodB y = true ↔ Good y := by
  unfold goodB Good Sq
  simp only [Bool.and_eq_true, Bool.or_eq_true, decide_eq_true_eq]
theorem good_of {y : Nat} (h : goodB y = true) : Good y := (goodB_iff y).mp h
theorem good_not {y : Nat} (h : goodB y = false) : ¬ Good y := fun g => by rw [(goodB_iff y).mpr g] at h; cases h
/-- The first of m numbers, from the k-th on, of which there is a found point. -/
def firstG (Y : Nat → Nat) : Nat → Nat → Option Nat
  | 0, _ => none
  | m + 1, k => if goodB (Y k) then some k else firstG Y m (k + 1)
theorem firstG_yes (Y : Nat → Nat) (m k : Nat) (hm : m = (m - 1) + 1) (h : goodB (Y k) = true) : firstG Y m k = some k := by
  rw [hm, firstG, if_pos h]
theorem firstG_no (Y : Nat → Nat) (m k : Nat) (hm : m = (m - 1) + 1) (h : goodB (Y k) = false) : firstG Y m k = firstG Y (m - 1) (k + 1) := by
  rw [hm, firstG, if_neg (by rw [h]; decide)]
  rfl
theorem firstG_good (Y : Nat → Nat) : ∀ m k j, firstG Y m k = some j → goodB (Y j) = true
  | 0, _, _, h => by cases h
  | m + 1, k, j, h => by
    rw [firstG] at h
    split at h
    · rename_i hg; cases h; exact hg
    · exact firstG_good Y m (k + 1) j h
theorem firstG_lt (Y : Nat → Nat) : ∀ m k j, firstG Y m k = some j → j < k + m
  | 0, _, _, h => by cases h
  | m + 1, k, j, h => by
    rw [firstG] at h
    split at h
    · cases h; omega
    · have := firstG_lt Y m (k + 1) j h; omega
theorem firstG_congr {Y Z : Nat → Nat} (h : ∀ k, Y k = Z k) : ∀ m k, firstG Y m k = firstG Z m k
  | 0, _ => rfl
  | m + 1, k => by rw [firstG, firstG, h, firstG_congr h m (k + 1)]
end Ob

namespace Go.Proofs.YtoigpjaffggekaaDoor
open Go.RowKit Go.Proofs
set_option linter.unusedVariables false

/-- The one cell of the table that is read. -/
def TabOk (w : World) : Prop := w.cell? ⟨0, 29, none⟩ = some (.int .u8 18)
theorem TabOk.drew {w : World} (h : TabOk w) (n : Nat) : TabOk (w.drewN n) := h

theorem tz_core (x : Int) (w : World) (hx0 : (x == 0) = false) (key : IntKind.u64.wrap (bits BinOp.and IntKind.u64 x (IntKind.u64.wrap (-x)) * 285870213051353865) / 288230376151711744 = 29)
    (hcell : w.cell? ⟨0, 29, none⟩ = some (.int .u8 18)) :
    Calls Tryd.prog 71 #[.int .u64 x] w fun e w' => e = .returned (.int .i64 18) ∧ w = w' := by
  go_enter Tryd.func71, Tryd.ntmps71
  go_wp2_with (simp only [key])
  go_ret
  exact ⟨rfl, rfl⟩

theorem tz_R (w : World) (h : TabOk w) :
    Calls Tryd.prog 71 #[.int .u64 288230376287764480] w fun e w' => e = .returned (.int .i64 18) ∧ w = w' :=
  tz_core 288230376287764480 w (by decide +kernel) (by decide +kernel) h

theorem pow_R (a x : Nat) (w : World) (ha : a < Ob.R) (hx : x < 18446744073709551616) :
    Calls Tryd.prog 62 #[.int .u64 288230376287764481, .int .u64 a, .int .u64 x] w fun e w' => e = .returned (.int .u64 ((a ^ x % Ob.R : Nat) : Int)) ∧ ∃ n, w' = w.drewN n :=
  powRest_any Ob.R a x w (by decide +kernel) (by decide +kernel) ha hx

theorem mul_R (a b : Nat) (w : World) (ha : a < Ob.R) (hb : b < Ob.R) :
    Calls Tryd.prog 66 #[.int .u64 288230376287764481, .int .u64 a, .int .u64 b] w fun e w' => e = .returned (.int .u64 ((a * b % Ob.R : Nat) : Int)) ∧ ∃ n, w' = w.drewN n :=
  mulRests_any Ob.R a b w (by decide +kernel) ha hb

theorem two_pow_word (j : Nat) (hj : j ≤ 16) : ∃ E : Nat, Hid (2 ^ j = E) ∧ E < 18446744073709551616 ∧ IntKind.u64.wrap (2 ^ j) = (E : Int) := by
  have h : 2 ^ j ≤ 2 ^ 16 := Nat.pow_le_pow_right (by decide) hj
  refine ⟨2 ^ j, rfl, by omega, ?_⟩
  have e : (2 : Int) ^ j = ((2 ^ j : Nat) : Int) := (Int.natCast_pow 2 j).symm
  rw [e]
  exact wrapNat _ (by omega)

set_option maxHeartbeats 1000000 in
theorem someRoot_any (a : Nat) (w : World) (hT : TabOk w) (ha : a < Ob.R) (hsq : Hid (a ^ ((Ob.R - 1) / 2) % Ob.R = 1)) :
    Calls Tryd.prog 63 #[.int .u64 a] w fun e w' => ∃ x : Nat, e = .returned (.int .u64 x) ∧ x < Ob.R ∧ Hid (x * x % Ob.R = a % Ob.R) ∧ ∃ n, w' = w.drewN n := by
  obtain ⟨x0, hx0, hx0l⟩ : ∃ x0 : Nat, Hid (a ^ ((Ob.ODD + 1) / 2) % Ob.R = x0) ∧ x0 < Ob.R := ⟨_, rfl, Nat.mod_lt _ (by decide +kernel)⟩
  obtain ⟨o0, ho0, ho0l⟩ : ∃ o0 : Nat, Hid (a ^ Ob.ODD % Ob.R = o0) ∧ o0 < Ob.R := ⟨_, rfl, Nat.mod_lt _ (by decide +kernel)⟩
  obtain ⟨s0, hs0, hs0l⟩ : ∃ s0 : Nat, Hid (3 ^ Ob.ODD % Ob.R = s0) ∧ s0 < Ob.R := ⟨_, rfl, Nat.mod_lt _ (by decide +kernel)⟩
  have hstart : Hid (Ob.Ton a 17 x0 o0 s0) := by
    have := Ob.Ton.start (a := a) rfl hsq.out
    rw [hx0.out, ho0.out, hs0.out] at this
    exact this
  have c1 : ∀ w, Calls Tryd.prog 62 #[.int .u64 288230376287764481, .int .u64 a, .int .u64 549755814148] w fun e w' => e = .returned (.int .u64 x0) ∧ ∃ n, w' = w.drewN n := fun w => by
    have := pow_R a ((Ob.ODD + 1) / 2) w ha (by decide +kernel)
    rw [hx0.out] at this
    exact this
  have c2 : ∀ w, Calls Tryd.prog 62 #[.int .u64 288230376287764481, .int .u64 a, .int .u64 1099511628295] w fun e w' => e = .returned (.int .u64 o0) ∧ ∃ n, w' = w.drewN n := fun w => by
    have := pow_R a Ob.ODD w ha (by decide +kernel)
    rw [ho0.out] at this
    exact this
  have c3 : ∀ w, Calls Tryd.prog 62 #[.int .u64 288230376287764481, .int .u64 3, .int .u64 1099511628295] w fun e w' => e = .returned (.int .u64 s0) ∧ ∃ n, w' = w.drewN n := fun w => by
    have := pow_R 3 Ob.ODD w (by decide +kernel) (by decide +kernel)
    rw [hs0.out] at this
    exact this
  have k1 : (288230376287764480 : Int) / 2 ^ 18 = 1099511628295 := by decide +kernel
  clear hx0 ho0 hs0 hsq
  go_enter Tryd.func63, Tryd.ntmps63
  go_wp2_with (go_at_call 71; refine (tz_R _ hT).mono ?_; rintro e w' ⟨rfl, rfl⟩)
  refine (c1 _).mono ?_
  rintro e w1 ⟨rfl, n1, rfl⟩
  go_wp2_with fail
  refine (c2 _).mono ?_
  rintro e w1 ⟨rfl, n2, rfl⟩
  go_wp2_with fail
  refine (c3 _).mono ?_
  rintro e w1 ⟨rfl, n3, rfl⟩
  clear c1 c2 c3
  go_wp2
  go_loopw [5, 6, 7, 8, 9] (fun sx so ss sk _ wr => ∃ k x o s n : Nat, k ≤ 17 ∧ x < Ob.R ∧ o < Ob.R ∧ s < Ob.R ∧ sx = .int .u64 x ∧ so = .int .u64 o ∧ ss = .int .u64 s ∧ sk = .int .i64 k ∧ wr = w.drewN n ∧ Hid (Ob.Ton a k x o s)) (fun _ _ _ sk _ _ => (intOf sk).toNat)
  case atStart => exact ⟨17, x0, o0, s0, _, by omega, hx0l, ho0l, hs0l, rfl, rfl, rfl, rfl, rfl, hstart⟩
  case round =>
    obtain ⟨k, x, o, s, n, hk, hx, ho, hs, rfl, rfl, rfl, rfl, rfl, hI⟩ := hrel
    clear hstart
    by_cases h0 : k = 0
    · subst h0
      have hn : Hid (x * x % Ob.R = a % Ob.R) := hI.out.last
      go_wp2
      go_ret
      exact ⟨x, rfl, hx, hn, _, rfl⟩
    · obtain ⟨j, rfl⟩ : ∃ j, k = j + 1 := ⟨k - 1, by omega⟩
      obtain ⟨nx, hnx, hnxl⟩ : ∃ nx : Nat, Hid (s * s % Ob.R = nx) ∧ nx < Ob.R := ⟨_, rfl, Nat.mod_lt _ (by decide +kernel)⟩
      have c1 : ∀ w, Calls Tryd.prog 66 #[.int .u64 288230376287764481, .int .u64 s, .int .u64 s] w fun e w' => e = .returned (.int .u64 nx) ∧ ∃ n, w' = w.drewN n := fun w => by
        have := mul_R s s w hs hs
        rw [hnx.out] at this
        exact this
      obtain ⟨E, hE, hEl, hEi⟩ : ∃ E : Nat, Hid (2 ^ j = E) ∧ E < 18446744073709551616 ∧ IntKind.u64.wrap (2 ^ j) = (E : Int) := two_pow_word j (by omega)
      obtain ⟨q, hq, hql⟩ : ∃ q : Nat, Hid (o ^ E % Ob.R = q) ∧ q < Ob.R := ⟨_, rfl, Nat.mod_lt _ (by decide +kernel)⟩
      have c2 : ∀ w, Calls Tryd.prog 62 #[.int .u64 288230376287764481, .int .u64 o, .int .u64 E] w fun e w' => e = .returned (.int .u64 q) ∧ ∃ n, w' = w.drewN n := fun w => by
        have := pow_R o E w ho hEl
        rw [hq.out] at this
        exact this
      by_cases hq1 : q = 1
      · have hN : Hid (Ob.Ton a j x o nx) := by
          have := hI.out.keep (by rw [hE.out, hq.out, hq1])
          rw [hnx.out] at this
          exact this
        have hq1i : ((q : Int) != 1) = false := by rw [hq1]; rfl
        clear hI hq hE hnx hq1
        go_wp2_with (first | (go_at_call 66; refine (c1 _).mono ?_; rintro e w' ⟨rfl, n1', rfl⟩) | (go_at_call 62; refine (c2 _).mono ?_; rintro e w' ⟨rfl, n2', rfl⟩))
        go_roundw
        case rel => exact ⟨j, x, o, nx, _, by omega, hx, ho, hnxl, rfl, rfl, rfl, by first | rfl | go_num, rfl, hN⟩
        case measure => simp [intOf]
      · obtain ⟨x2, hx2, hx2l⟩ : ∃ x2 : Nat, Hid (x * s % Ob.R = x2) ∧ x2 < Ob.R := ⟨_, rfl, Nat.mod_lt _ (by decide +kernel)⟩
        obtain ⟨o2, ho2, ho2l⟩ : ∃ o2 : Nat, Hid (o * nx % Ob.R = o2) ∧ o2 < Ob.R := ⟨_, rfl, Nat.mod_lt _ (by decide +kernel)⟩
        have c3 : ∀ w, Calls Tryd.prog 66 #[.int .u64 288230376287764481, .int .u64 x, .int .u64 s] w fun e w' => e = .returned (.int .u64 x2) ∧ ∃ n, w' = w.drewN n := fun w => by
          have := mul_R x s w hx hs
          rw [hx2.out] at this
          exact this
        have c4 : ∀ w, Calls Tryd.prog 66 #[.int .u64 288230376287764481, .int .u64 o, .int .u64 nx] w fun e w' => e = .returned (.int .u64 o2) ∧ ∃ n, w' = w.drewN n := fun w => by
          have := mul_R o nx w ho hnxl
          rw [ho2.out] at this
          exact this
        have hN : Hid (Ob.Ton a j x2 o2 nx) := by
          have := hI.out.turn (by rw [hE.out, hq.out]; exact hq1)
          rw [hnx.out, hx2.out, ho2.out] at this
          exact this
        have hq1i : ((q : Int) != 1) = true := by simp; omega
        clear hI hq hE hnx hq1 hx2 ho2
        go_wp2_with (first | (go_at_call 62; refine (c2 _).mono ?_; rintro e w' ⟨rfl, n2', rfl⟩))
        refine (c1 _).mono ?_
        rintro e w' ⟨rfl, n3', rfl⟩
        go_wp2_with (first | (go_at_call 62; refine (c2 _).mono ?_; rintro e w' ⟨rfl, n2', rfl⟩))
        refine (c3 _).mono ?_
        rintro e w' ⟨rfl, n4', rfl⟩
        go_wp2_with fail
        refine (c4 _).mono ?_
        rintro e w' ⟨rfl, n5', rfl⟩
        go_wp2
        go_roundw
        case rel => exact ⟨j, x2, o2, nx, _, by omega, hx2l, ho2l, hnxl, rfl, rfl, rfl, by first | rfl | go_num, rfl, hN⟩
        case measure => simp [intOf]

theorem rest_R (a : Nat) (w : World) (ha : a < 18446744073709551616) :
    Calls Tryd.prog 61 #[.int .u64 288230376287764481, .int .u64 a] w fun e w' => e = .returned (.int .u64 ((a % Ob.R : Nat) : Int)) ∧ w = w' :=
  rest_any Ob.R a w (by decide +kernel) ha

set_option maxHeartbeats 400000 in
theorem root_zero (a : Nat) (w : World) (ha : a < 18446744073709551616) (h : a % Ob.R = 0) :
    Calls Tryd.prog 50 #[.int .u64 a] w fun e w' => e = .returned (.tuple #[.int .u64 0, .nilIface]) ∧ ∃ n, w' = w.drewN n := by
  have c1 := fun w => rest_R a w ha
  rw [h] at c1
  clear h
  go_enter Tryd.func50, Tryd.ntmps50
  go_wp2_with (go_at_call 61; refine (c1 _).mono ?_; rintro e w' ⟨rfl, rfl⟩)
  go_ret2
  exact ⟨rfl, 0, rfl⟩

set_option maxHeartbeats 400000 in
theorem root_no_core (a r q : Nat) (w : World) (ha : a < 18446744073709551616) (hr : ((r : Int) == 0) = false) (hq : ((q : Int) != 1) = true)
    (c1 : ∀ w, Calls Tryd.prog 61 #[.int .u64 288230376287764481, .int .u64 a] w fun e w' => e = .returned (.int .u64 r) ∧ w = w')
    (c2 : ∀ w, Calls Tryd.prog 62 #[.int .u64 288230376287764481, .int .u64 r, .int .u64 144115188143882240] w fun e w' => e = .returned (.int .u64 q) ∧ ∃ n, w' = w.drewN n) :
    Calls Tryd.prog 50 #[.int .u64 a] w fun e w' => e = .returned (.tuple #[.int .u64 0, .iface 30 (.int .i64 2)]) ∧ ∃ n, w' = w.drewN n := by
  go_enter Tryd.func50, Tryd.ntmps50
  go_wp2_with (first | (go_at_call 61; refine (c1 _).mono ?_; rintro e w' ⟨rfl, rfl⟩) | (go_at_call 62; refine (c2 _).mono ?_; rintro e w' ⟨rfl, n, rfl⟩))
  go_ret2
  exact ⟨rfl, _, rfl⟩

theorem ret_fst {k : IntKind} {a b : Int} {v : Value} (h : a = b) : Ending.returned (.tuple #[.int k a, v]) = .returned (.tuple #[.int k b, v]) := by rw [h]
theorem bne_of {q : Nat} (h : q ≠ 1) : ((q : Int) != 1) = true := by simp; omega
theorem beq_of {q : Nat} (h : q ≠ 1) : ((q : Int) == 1) = false := by simp; omega

set_option maxHeartbeats 400000 in
theorem root_yes_core (a r : Nat) (w : World) (hT : TabOk w) (ha : a < 18446744073709551616) (hr : ((r : Int) == 0) = false) (y : Nat)
    (c1 : ∀ w, Calls Tryd.prog 61 #[.int .u64 288230376287764481, .int .u64 a] w fun e w' => e = .returned (.int .u64 r) ∧ w = w')
    (c2 : ∀ w, Calls Tryd.prog 62 #[.int .u64 288230376287764481, .int .u64 r, .int .u64 144115188143882240] w fun e w' => e = .returned (.int .u64 1) ∧ ∃ n, w' = w.drewN n)
    (c3 : ∀ w, TabOk w → Calls Tryd.prog 63 #[.int .u64 r] w fun e w' => ∃ x : Nat, e = .returned (.int .u64 x) ∧ x < Ob.R ∧ Hid (y = min x (Ob.R - x)) ∧ ∃ n, w' = w.drewN n) :
    Calls Tryd.prog 50 #[.int .u64 a] w fun e w' => e = .returned (.tuple #[.int .u64 y, .nilIface]) ∧ ∃ n, w' = w.drewN n := by
  go_enter Tryd.func50, Tryd.ntmps50
  go_wp2_with (first | (go_at_call 61; refine (c1 _).mono ?_; rintro e w' ⟨rfl, rfl⟩) | (go_at_call 62; refine (c2 _).mono ?_; rintro e w' ⟨rfl, n, rfl⟩))
  refine (c3 _ (hT.drew _)).mono ?_
  rintro e w' ⟨x, rfl, hx, hy, n', rfl⟩
  have hx2 : x < 288230376287764481 := hx
  have hyi : Hid (min (x : Int) (288230376287764481 - (x : Int)) = (y : Int)) := by
    have h := hy.out
    show min (x : Int) (288230376287764481 - (x : Int)) = (y : Int)
    simp only [Ob.R] at h
    omega
  go_wp2
  go_ret2
  exact ⟨ret_fst hyi.out, _, rfl⟩

theorem R_half_num : (Ob.R - 1) / 2 = 144115188143882240 := by decide +kernel

/-- Root of a number that has one. -/
theorem root_yes (a : Nat) (w : World) (hT : TabOk w) (ha : a < 18446744073709551616) (h : Ob.Sq a) :
    Calls Tryd.prog 50 #[.int .u64 a] w fun e w' => e = .returned (.tuple #[.int .u64 (Ob.root a : Nat), .nilIface]) ∧ ∃ n, w' = w.drewN n := by
  by_cases h0 : a % Ob.R = 0
  · have : Ob.root a = 0 := Ob.root_eq (by omega) (by rw [h0, Nat.mul_zero, Nat.zero_mod])
    rw [this]
    exact root_zero a w ha h0
  · have hl : a % Ob.R < Ob.R := Nat.mod_lt _ (by have := Ob.R_two; omega)
    have h1 : (a % Ob.R) ^ ((Ob.R - 1) / 2) % Ob.R = 1 := by
      rw [Ob.pow_mod_left]
      rcases h with h | h
      · exact absurd h h0
      · exact h
    refine root_yes_core a (a % Ob.R) w hT ha (by simp; omega) (Ob.root a) (fun w => rest_R a w ha) (fun w => ?_) (fun w hw => ?_)
    · have := pow_R (a % Ob.R) ((Ob.R - 1) / 2) w hl (by decide +kernel)
      rw [h1] at this
      exact this
    · refine (someRoot_any (a % Ob.R) w hw hl h1).mono fun e w' ⟨x, he, hx, hxx, hw⟩ => ⟨x, he, hx, ?_, hw⟩
      have := hxx.out
      rw [Nat.mod_mod] at this
      exact Ob.lesser hx this

/-- Root of a number that has none. -/
theorem root_no (a : Nat) (w : World) (ha : a < 18446744073709551616) (h : ¬ Ob.Sq a) :
    Calls Tryd.prog 50 #[.int .u64 a] w fun e w' => e = .returned (.tuple #[.int .u64 0, .iface 30 (.int .i64 2)]) ∧ ∃ n, w' = w.drewN n := by
  have h0 : a % Ob.R ≠ 0 := fun e => h (Or.inl e)
  have hl : a % Ob.R < Ob.R := Nat.mod_lt _ (by have := Ob.R_two; omega)
  have h1 : (a % Ob.R) ^ ((Ob.R - 1) / 2) % Ob.R ≠ 1 := by
    rw [Ob.pow_mod_left]
    exact fun e => h (Or.inr e)
  exact root_no_core a (a % Ob.R) ((a % Ob.R) ^ ((Ob.R - 1) / 2) % Ob.R) w ha (by simp; omega) (bne_of h1) (fun w => rest_R a w ha) (fun w => pow_R (a % Ob.R) ((Ob.R - 1) / 2) w hl (by decide +kernel))

/-- The document's own: has a number a root? -/
theorem square_yes (a : Nat) (w : World) (ha : a < 18446744073709551616) (h : Ob.Sq a) :
    Calls Tryd.prog 18 #[.int .u64 a] w fun e w' => e = .returned (.bool true) ∧ w = w' := by
  have c1 := fun w => rpow_any Ob.R a ((Ob.R - 1) / 2) w ⟨by decide +kernel, by decide +kernel⟩ ha (by decide +kernel)
  rw [Ob.pow_yes ⟨by decide +kernel, by decide +kernel⟩] at c1
  by_cases h0 : a % Ob.R = 0
  · have h0i : ((a : Int) % 288230376287764481 == 0) = true := by simp [Ob.R] at h0 ⊢; omega
    clear c1
    go_enter Tryd.func18, Tryd.ntmps18
    go_wp2
    go_ret
    exact ⟨rfl, rfl⟩
  · have h0i : ((a : Int) % 288230376287764481 == 0) = false := by simp [Ob.R] at h0 ⊢; omega
    rcases h with h | h
    · exact absurd h h0
    rw [h] at c1
    have c2 : ∀ w, Calls Tryd.prog 36 #[.int .u64 288230376287764481, .int .u64 a, .int .u64 144115188143882240] w fun e w' => e = .returned (.int .u64 1) ∧ w = w' := c1
    clear c1 h h0
    go_enter Tryd.func18, Tryd.ntmps18
    go_wp2_with (go_at_call 36; refine (c2 _).mono ?_; rintro e w' ⟨rfl, rfl⟩)
    go_ret
    exact ⟨rfl, rfl⟩

theorem square_no_core (a q : Nat) (w : World) (h0i : ((a : Int) % 288230376287764481 == 0) = false) (hq : ((q : Int) == 1) = false)
    (c2 : ∀ w, Calls Tryd.prog 36 #[.int .u64 288230376287764481, .int .u64 a, .int .u64 144115188143882240] w fun e w' => e = .returned (.int .u64 q) ∧ w = w') :
    Calls Tryd.prog 18 #[.int .u64 a] w fun e w' => e = .returned (.bool false) ∧ w = w' := by
  go_enter Tryd.func18, Tryd.ntmps18
  go_wp2_with (go_at_call 36; refine (c2 _).mono ?_; rintro e w' ⟨rfl, rfl⟩)
  go_ret
  exact ⟨rfl, rfl⟩

theorem square_no (a : Nat) (w : World) (ha : a < 18446744073709551616) (h : ¬ Ob.Sq a) :
    Calls Tryd.prog 18 #[.int .u64 a] w fun e w' => e = .returned (.bool false) ∧ w = w' := by
  have c1 := fun w => rpow_any Ob.R a ((Ob.R - 1) / 2) w ⟨by decide +kernel, by decide +kernel⟩ ha (by decide +kernel)
  rw [Ob.pow_yes ⟨by decide +kernel, by decide +kernel⟩] at c1
  have h0 : a % Ob.R ≠ 0 := fun e => h (Or.inl e)
  have h1 : a ^ ((Ob.R - 1) / 2) % Ob.R ≠ 1 := fun e => h (Or.inr e)
  exact square_no_core a _ w (by simp [Ob.R] at h0 ⊢; omega) (beq_of h1) c1
end Go.Proofs.YtoigpjaffggekaaDoor

namespace Ob

/-- The number that the first k bytes of z tell. -/
def num (z : Nat → Nat) : Nat → Nat
  | 0 => 0
  | k + 1 => 256 * num z k + z k
theorem num_lt (z : Nat → Nat) (h : ∀ i, z i < 256) (k : Nat) : num z k < 256 ^ k := by
  induction k with
  | zero => simp [num]
  | succ k ih =>
    have := h k
    rw [Nat.pow_succ]
    simp only [num]
    omega
theorem num_small (z : Nat → Nat) (h : ∀ i, z i < 256) (k : Nat) (hk : k ≤ 7) : num z k < 72057594037927936 :=
  Nat.lt_of_lt_of_le (num_lt z h k) (Nat.pow_le_pow_right (n := 256) (by decide) hk)
theorem num_word (z : Nat → Nat) (h : ∀ i, z i < 256) : num z 8 < 18446744073709551616 := num_lt z h 8

/-- The byte number i of the 8 of n. -/
def byteAt (n i : Nat) : Nat := n / 256 ^ (7 - i) % 256
theorem byteAt_lt (n i : Nat) : byteAt n i < 256 := Nat.mod_lt _ (by decide)

theorem num_byteAt (n k : Nat) (hk : k ≤ 8) (hn : n < 18446744073709551616) : num (byteAt n) k = n / 256 ^ (8 - k) := by
  induction k with
  | zero => simp only [num]; rw [Nat.div_eq_of_lt (by simpa using hn)]
  | succ k ih =>
    simp only [num]
    rw [ih (by omega)]
    have e : 8 - k = (8 - (k + 1)) + 1 := by omega
    have e2 : 7 - k = 8 - (k + 1) := by omega
    rw [e, Nat.pow_succ, ← Nat.div_div_eq_div_mul]
    unfold byteAt
    rw [e2]
    omega
theorem num_bytes (n : Nat) (hn : n < 18446744073709551616) : num (byteAt n) 8 = n := by
  rw [num_byteAt n 8 (by decide) hn]; simp
theorem num_congr (y z : Nat → Nat) (k : Nat) (h : ∀ i, i < k → y i = z i) : num y k = num z k := by
  induction k with
  | zero => rfl
  | succ k ih => simp only [num]; rw [ih fun i hi => h i (by omega), h k (by omega)]
theorem byteAt_num (z : Nat → Nat) (h : ∀ i, z i < 256) (i : Nat) (hi : i < 8) : byteAt (num z 8) i = z i := by
  have h0 := h 0; have h1 := h 1; have h2 := h 2; have h3 := h 3; have h4 := h 4; have h5 := h 5; have h6 := h 6; have h7 := h 7
  have h8 : i = 0 ∨ i = 1 ∨ i = 2 ∨ i = 3 ∨ i = 4 ∨ i = 5 ∨ i = 6 ∨ i = 7 := by omega
  rcases h8 with rfl | rfl | rfl | rfl | rfl | rfl | rfl | rfl
  all_goals
    simp only [byteAt, num]
    omega
end Ob

namespace Go.Proofs.YtoigpjaffggekaaDoor
open Go.RowKit Go.Proofs
set_option linter.unusedVariables false
set_option linter.unusedSimpArgs false

/-- n bytes, from a place on. -/
structure Bys (w : World) (b off n : Nat) (z : Nat → Nat) : Prop where
  lt : b < w.heap.size
  at_ : ∀ i, i < n → w.cell? ⟨b, off + i, none⟩ = some (.int .u8 (z i : Nat))
theorem Bys.below {w w1 : World} {B b off n : Nat} {z : Nat → Nat} (t : Bys w b off n z) (hb : Below B w w1) (h : b < B) : Bys w1 b off n z :=
  ⟨Nat.lt_of_lt_of_le t.lt hb.size, fun i hi => by rw [(bcell hb).1 b _ h]; exact t.at_ i hi⟩
theorem Bys.via {w w1 : World} {B b off n : Nat} {z : Nat → Nat} (hb : Below B w w1) (t : Bys w b off n z) (h : b < B) : Bys w1 b off n z := t.below hb h
theorem Bys.drew {w : World} {b off n : Nat} {z : Nat → Nat} (t : Bys w b off n z) : Bys w.drew b off n z := ⟨t.lt, t.at_⟩
theorem Bys.drewN {w : World} {b off n : Nat} {z : Nat → Nat} (t : Bys w b off n z) (k : Nat) : Bys (w.drewN k) b off n z := ⟨t.lt, t.at_⟩
theorem Bys.alloc {w : World} {b off n : Nat} {z : Nat → Nat} (t : Bys w b off n z) (o : Obj) : Bys (w.alloc o) b off n z := t.below ((Below.refl w.heap.size w).alloc (Nat.le_refl _) o) t.lt
theorem Bys.far {w : World} {b off n b' : Nat} {z : Nat → Nat} (t : Bys w b off n z) (h : b' ≠ b) (o : Nat) (v : Value) : Bys (w.setCell ⟨b', o, none⟩ v) b off n z :=
  ⟨by simp [t.lt], fun i hi => by rw [World.cell?_setCell_other _ _ _ _ (by simp [h]), t.at_ i hi]⟩
theorem Bys.less {w : World} {b off n m : Nat} {z : Nat → Nat} (t : Bys w b off n z) (h : m ≤ n) : Bys w b off m z := ⟨t.lt, fun i hi => t.at_ i (by omega)⟩
theorem Bys.more {w : World} {b off n : Nat} {z : Nat → Nat} (t : Bys w b off n z) (k m : Nat) (h : k + m ≤ n) : Bys w b (off + k) m (fun i => z (k + i)) :=
  ⟨t.lt, fun i hi => by rw [Nat.add_assoc]; exact t.at_ (k + i) (by omega)⟩

set_option maxHeartbeats 400000 in
theorem rnumberW (b off len cap : Nat) (z : Nat → Nat) (hz : ∀ i, z i < 256) (w : World) (hl : 8 ≤ len) (hlm : len ≤ maxLen) (hB : Bys w b off 8 z) :
    Calls Tryd.prog 16 #[.slice (some ⟨b, off, none⟩) len cap] w fun e w' => e = .returned (.int .u64 (Ob.num z 8 : Nat)) ∧ w = w' := by
  unfold maxLen at hlm
  have hc := hB.at_
  clear hB
  go_enter Tryd.func16, Tryd.ntmps16
  go_wp2
  go_loop [3, 4] (fun sn si => ∃ k : Nat, k ≤ 8 ∧ si = .int .i64 k ∧ sn = .int .u64 (Ob.num z k : Nat)) (fun _ si => 8 - (intOf si).toNat)
  case atStart => exact ⟨0, by omega, rfl, rfl⟩
  case round =>
    obtain ⟨k, hk, rfl, rfl⟩ := hrel
    by_cases hlt : k < 8
    · have hck := hc k hlt
      clear hc
      have hb := Ob.num_small z hz k (by omega)
      have hzk := hz k
      have hn : Hid (Ob.num z (k + 1) = 256 * Ob.num z k + z k) := rfl
      generalize Ob.num z k = N at hb hn ⊢
      generalize z k = zk at hck hzk hn
      clear hz
      go_wp2
      go_round
      case rel => exact ⟨k + 1, by omega, by go_num, by rw [hn.out]; go_num⟩
      case measure => simp [intOf]; omega
    · obtain rfl : k = 8 := by omega
      clear hc
      go_wp2
      go_ret
      exact ⟨rfl, rfl⟩

theorem or_byte (n x : Nat) (hn : n < 72057594037927936) (hx : x < 256) : bits .or .u64 ((n : Int) * 256) (x : Int) = ((256 * n + x : Nat) : Int) := by
  have h := bits_or_u64_nat (256 * n) x (by omega) (by omega)
  have e : 256 * n ||| x = 256 * n + x := (Nat.two_pow_add_eq_or_of_lt (i := 8) (show x < 2 ^ 8 from hx) n).symm
  rw [e] at h
  have e2 : ((256 * n : Nat) : Int) = (n : Int) * 256 := by omega
  rw [e2] at h
  exact h

set_option maxHeartbeats 400000 in
theorem numberW (b off cap : Nat) (z : Nat → Nat) (hz : ∀ i, z i < 256) (w : World) (hB : Bys w b off 8 z) :
    Calls Tryd.prog 27 #[.slice (some ⟨b, off, none⟩) 8 cap] w fun e w' => e = .returned (.int .u64 (Ob.num z 8 : Nat)) ∧ w = w' := by
  have hc := hB.at_
  clear hB
  go_enter Tryd.func27, Tryd.ntmps27
  go_wp2
  go_loop [3, 8] (fun sn si => ∃ k : Nat, k ≤ 8 ∧ si = .int .i64 k ∧ sn = .int .u64 (Ob.num z k : Nat)) (fun _ si => 8 - (intOf si).toNat)
  case atStart => exact ⟨0, by omega, rfl, rfl⟩
  case round =>
    obtain ⟨k, hk, rfl, rfl⟩ := hrel
    by_cases hlt : k < 8
    · have hck := hc k hlt
      clear hc
      have hb := Ob.num_small z hz k (by omega)
      have hzk := hz k
      have hor := or_byte _ _ hb hzk
      have hn : Hid (Ob.num z (k + 1) = 256 * Ob.num z k + z k) := rfl
      generalize Ob.num z k = N at hb hn hor ⊢
      generalize z k = zk at hck hzk hn hor
      clear hz
      go_wp2
      go_round
      case rel => exact ⟨k + 1, by omega, by go_num, by rw [hn.out]; go_num⟩
      case measure => simp [intOf]; omega
    · obtain rfl : k = 8 := by omega
      clear hc
      go_wp2
      go_ret
      exact ⟨rfl, rfl⟩

theorem byteInfo : ∃ i, Tryd.prog.info? 5 = some i ∧ i.size = 1 ∧ i.bytes = 1 ∧ i.zero = some (.int .u8 0) := by
  have h : (Tryd.prog.info? 5).map (fun i => (i.size, i.bytes, i.zero)) = some (1, 1, some (.int .u8 0)) := by kernel_rfl
  cases hi : Tryd.prog.info? 5 with
  | none => rw [hi] at h; cases h
  | some i =>
    rw [hi] at h
    simp only [Option.map_some, Option.some.injEq, Prod.mk.injEq] at h
    exact ⟨i, rfl, h.1, h.2.1, h.2.2⟩

/-- The values of bytes. -/
def vals (z : Nat → Nat) (n : Nat) : List Value := (List.range n).map fun i => .int .u8 (z i : Nat)
theorem vals_zero (z : Nat → Nat) : vals z 0 = [] := rfl
theorem vals_succ (z : Nat → Nat) (n : Nat) : vals z (n + 1) = vals z n ++ [.int .u8 (z n : Nat)] := by simp [vals, List.range_succ]
theorem vals_get (z : Nat → Nat) (n i : Nat) (h : i < n) : (vals z n)[i]? = some (.int .u8 (z i : Nat)) := by simp [vals, h]

/-- A row of the call's own, as bytes. -/
theorem bys_of_row {w : World} {base n cap g : Nat} {z : Nat → Nat} (h : w.ownsRow base 5 1 (.slice (some ⟨g, 0, none⟩) n cap) n (vals z n)) : Bys w g 0 n z := by
  refine ⟨(h.lt g rfl).2, fun i hi => ?_⟩
  have := h.cells (g := g) rfl i _ (vals_get z n i hi)
  have hadd : (⟨g, 0, none⟩ : Addr).add i = ⟨g, 0 + i, none⟩ := by unfold Addr.add; split <;> simp_all
  rw [hadd] at this
  exact this
theorem free_of_row {w : World} {base n cap g : Nat} {xs : List Value} (h : w.ownsRow base 5 1 (.slice (some ⟨g, 0, none⟩) n cap) n xs) (o : Nat) : w.frozen? ⟨g, o, none⟩ = false := by
  rcases h.2 with ⟨h0, _⟩ | ⟨g', cap', cur, hv, _, hg, _⟩
  · cases h0
  · cases hv
    simp [World.frozen?, hg]

/-- Bytes that lie in memory, as the cells that an append takes. -/
theorem bys_news {w : World} {b off n : Nat} {z : Nat → Nat} (h : Bys w b off n z) : ∀ j u, (vals z n)[j]? = some u → w.cell? ((⟨b, off, none⟩ : Addr).add j) = some u := by
  intro j u hu
  have hj : j < n := by
    rcases Nat.lt_or_ge j n with h1 | h1
    · exact h1
    · have : (vals z n)[j]? = none := List.getElem?_eq_none (by simp [vals]; exact h1)
      rw [this] at hu
      cases hu
  rw [vals_get z n j hj] at hu
  cases hu
  have hadd : (⟨b, off, none⟩ : Addr).add j = ⟨b, off + j, none⟩ := by unfold Addr.add; split <;> simp_all
  rw [hadd]
  exact h.at_ j hj
theorem vals_one (z : Nat → Nat) (n : Nat) : ∀ u ∈ vals z n, u.oneCell' = true := by
  intro u hu
  simp only [vals, List.mem_map] at hu
  obtain ⟨i, _, rfl⟩ := hu
  rfl

/-- Byte number i of the numbers ns, one behind the other. -/
def byteOf (ns : Nat → Nat) (i : Nat) : Nat := Ob.byteAt (ns (i / 8)) (i % 8)

theorem shr_byte (n j : Nat) (hj : j < 8) (hn : n < 18446744073709551616) : IntKind.u8.wrap ((n : Int) / 2 ^ (56 - 8 * j)) = ((Ob.byteAt n j : Nat) : Int) := by
  have e : (2 : Nat) ^ (56 - 8 * j) = 256 ^ (7 - j) := by
    have : 56 - 8 * j = 8 * (7 - j) := by omega
    rw [this, Nat.pow_mul]
  have e1 : (n : Int) / 2 ^ (56 - 8 * j) = ((n / 2 ^ (56 - 8 * j) : Nat) : Int) := by simp
  rw [e1, e, IntKind.wrap_u8]
  unfold Ob.byteAt
  omega

set_option maxRecDepth 4000 in
set_option maxHeartbeats 1000000 in
theorem bytesW (b off k cap : Nat) (ns : Nat → Nat) (hns : ∀ i, ns i < 18446744073709551616) (w : World) (hk : k ≤ 1000000) (hc : ∀ i, i < k → w.cell? ⟨b, off + i, none⟩ = some (.int .u64 (ns i : Nat))) (hbw : b < w.heap.size) :
    Calls Tryd.prog 31 #[.slice (some ⟨b, off, none⟩) k cap] w fun e w' => e = .returned (.slice (some ⟨w.heap.size, 0, none⟩) (8 * k) (8 * k)) ∧ w'.ownsRow w.heap.size 5 1 (.slice (some ⟨w.heap.size, 0, none⟩) (8 * k) (8 * k)) (8 * k) (vals (byteOf ns) (8 * k)) ∧ Below w.heap.size w w' := by
  obtain ⟨i0, hi, hz1, hz2, hz0⟩ := byteInfo
  have hm : 8 * k ≤ maxLen := by unfold maxLen; omega
  go_enter Tryd.func31, Tryd.ntmps31
  go_wp2_with (at_make; refine wpList_make_own _ rfl _ _ 34 rfl w.heap.size 5 i0 _ 1 Tryd.underlying34 hi hz0 hz1 _ _ _ (8 * k) rfl rfl (by omega) (by rw [hz2]; omega) hm (Nat.le_refl _) ?_; intro w0 hown0 hgrow0)
  have hB0 : Below w.heap.size w w0 := (Below.refl _ _).grown hgrow0 (Nat.le_refl _) (fun k h => by cases h)
  clear hgrow0
  go_loopw [3, 13] (fun sb si wr => ∃ i : Nat, i ≤ k ∧ si = .int .i64 i ∧ sb = .slice (some ⟨w.heap.size, 0, none⟩) (8 * i) (8 * k) ∧ wr.ownsRow w.heap.size 5 1 (.slice (some ⟨w.heap.size, 0, none⟩) (8 * i) (8 * k)) (8 * i) (vals (byteOf ns) (8 * i)) ∧ Below w.heap.size w wr) (fun _ si _ => k - (intOf si).toNat)
  case atStart => exact ⟨0, by omega, rfl, rfl, hown0, hB0⟩
  case round =>
    obtain ⟨i, hik, rfl, rfl, hown, hB⟩ := hrel
    clear hown0 hB0
    by_cases hlt : i < k
    · have hci : wr.cell? ⟨b, off + i, none⟩ = some (.int .u64 (ns i : Nat)) := by rw [(bcell hB).1 b _ hbw]; exact hc i hlt
      have hni := hns i
      have hby : ∀ j, j < 8 → Hid (byteOf ns (8 * i + j) = Ob.byteAt (ns i) j) := fun j hj => by
        show byteOf ns (8 * i + j) = Ob.byteAt (ns i) j
        unfold byteOf
        have e1 : (8 * i + j) / 8 = i := by omega
        have e2 : (8 * i + j) % 8 = j := by omega
        rw [e1, e2]
      have hsh := fun j (hj : j < 8) => shr_byte (ns i) j hj hni
      generalize ns i = n at hci hni hby hsh
      go_wp2_with fail
      go_loopw [3, 6] (fun sb ss wq => ∃ j : Nat, j ≤ 8 ∧ ss = .int .i64 (56 - 8 * (j : Int)) ∧ sb = .slice (some ⟨w.heap.size, 0, none⟩) (8 * i + j) (8 * k) ∧ wq.ownsRow w.heap.size 5 1 (.slice (some ⟨w.heap.size, 0, none⟩) (8 * i + j) (8 * k)) (8 * i + j) (vals (byteOf ns) (8 * i + j)) ∧ Below w.heap.size w wq) (fun _ ss _ => (intOf ss + 8).toNat)
      case atStart => exact ⟨0, by omega, rfl, rfl, hown, hB⟩
      case round =>
        obtain ⟨j, hj, rfl, rfl, hown1, hB1⟩ := hrel
        clear hown hB hci
        by_cases hj8 : j < 8
        · have hs := hsh j hj8
          have hv := hby j hj8
          clear hsh hby hc
          have hown2 := hown1.alloc (.cells #[.int .u8 (Ob.byteAt n j : Nat)] 5)
          have hroom : 8 * i + j + 1 ≤ 8 * k := by omega
          have hj0 : (0 : Int) ≤ 56 - 8 * (j : Int) := by omega
          go_wp2_with (at_builtin; refine wpList_append_own_spare _ rfl _ _ 34 rfl w.heap.size 5 i0 1 Tryd.underlying34 hi hz1 w.heap.size (8 * i + j) (8 * k) _ rfl hown2 ⟨wr.heap.size, 0, none⟩ 1 1 [.int .u8 (Ob.byteAt n j : Nat)] rfl rfl (cell_one_new _ _ _) (by simp [Value.oneCell']) hroom ?_; intro w1 hown3 hgrow1)
          rw [← hv.out, ← vals_succ] at hown3
          have hB2 : Below w.heap.size w w1 := (hB1.alloc hB1.size _).grown hgrow1 (by have := hB1.size; simp only [World.size_alloc]; omega) (fun k h => by cases h; exact Nat.le_refl _)
          go_roundw
          case rel => exact ⟨j + 1, by omega, val_int (by omega), rfl, hown3, hB2⟩
          case measure => simp [intOf]; omega
        · obtain rfl : j = 8 := by omega
          clear hsh hby
          go_wp2
          go_roundw
          case rel => exact ⟨i + 1, by omega, by go_num, rfl, hown1, hB1⟩
          case measure => simp [intOf]; omega
    · obtain rfl : i = k := by omega
      go_wp2
      go_ret
      exact ⟨rfl, hown, hB⟩

theorem run_make8 (w : World) : (Instr.makeSlice 34 (.int .i64 8) (.int .i64 8)).run Tryd.prog w = .ok (.slice (some ⟨w.heap.size, 0, none⟩) 8 8) (w.alloc (.cells #[.int .u8 0, .int .u8 0, .int .u8 0, .int .u8 0, .int .u8 0, .int .u8 0, .int .u8 0, .int .u8 0] 5)) := by
  obtain ⟨i0, hi, hz1, hz2, hz0⟩ := byteInfo
  have h := run_make (P := Tryd.prog) w 34 5 i0 _ Tryd.underlying34 hi hz0 .i64 .i64 8 8 (by omega) (by omega) (by rw [hz2]; decide) (by omega)
  rw [hz1] at h
  have e : madeCells (Value.int .u8 0).cells (Int.toNat 8 * 1) = #[.int .u8 0, .int .u8 0, .int .u8 0, .int .u8 0, .int .u8 0, .int .u8 0, .int .u8 0, .int .u8 0] := by kernel_rfl
  rw [e] at h
  exact h

set_option maxHeartbeats 2000000 in
set_option maxRecDepth 4000 in
theorem rbytesW (n : Nat) (hn : n < 18446744073709551616) (w : World) :
    Calls Tryd.prog 10 #[.int .u64 n] w fun e w' => e = .returned (.slice (some ⟨w.heap.size, 0, none⟩) 8 8) ∧ Bys w' w.heap.size 0 8 (Ob.byteAt n) ∧ Below w.heap.size w w' := by
  have hmk := run_make8
  go_enter Tryd.func10, Tryd.ntmps10
  go_wp2
  go_rounds 9
  go_ret
  refine ⟨rfl, ⟨by simp, fun i hi => ?_⟩, by (repeat' (first | (with_reducible first | exact Below.refl _ _ | assumption | refine Below.alloc ?_ ?_ _ | refine Below.drew ?_ | refine below_drewN ?_ _ | refine Below.setCell ?_ ?_ _ | refine below_via (by with_reducible assumption) ?_ ?_) | omega | (simp only [szs]; omega) | (simp only [szs] at *; omega)))⟩
  rw [Nat.zero_add, World.cell?_alloc_new]
  have h8 : i = 0 ∨ i = 1 ∨ i = 2 ∨ i = 3 ∨ i = 4 ∨ i = 5 ∨ i = 6 ∨ i = 7 := by omega
  rcases h8 with rfl | rfl | rfl | rfl | rfl | rfl | rfl | rfl
  all_goals
    refine congrArg some (val_int ?_)
    simp only [Ob.byteAt]
    omega

/-- The numbers of bytes, as a list. -/
def nums (z : Nat → Nat) (n : Nat) : List Int := (List.range n).map fun i => (z i : Int)
/-- A slice of bytes, told as a string. -/
theorem bys_str (b off n cap : Nat) (z : Nat → Nat) (w : World) (h : Bys w b off n z) : (convert 34 9 (.slice (some ⟨b, off, none⟩) n cap)).run Tryd.prog w = .ok (.string (strOfNums (nums z n))) w := by
  refine run_convert_bytes_arg w 34 5 Tryd.underlying34 Tryd.underlying5 b off n cap (nums z n) (by simp [nums]) (fun i hi => ?_) 9 Tryd.underlying9
  rw [h.at_ i hi]
  simp [nums, hi]
theorem nums_add (z : Nat → Nat) (m n : Nat) : nums z (m + n) = nums z m ++ nums (fun i => z (m + i)) n := by
  simp [nums, List.range_add]
theorem nums_congr (y z : Nat → Nat) (n : Nat) (h : ∀ i, i < n → y i = z i) : nums y n = nums z n := by
  simp only [nums]
  refine List.map_congr_left fun i hi => ?_
  rw [h i (List.mem_range.mp hi)]
theorem strOfNums_append (x y : List Int) : strOfNums x ++ strOfNums y = strOfNums (x ++ y) := by
  apply ByteArray.ext
  simp [strOfNums, ByteArray.data_append]

/-- n bytes of the call's own, that may be written. -/
structure Wby (w : World) (g n : Nat) : Prop where
  at_ : ∀ j, j < n → ∃ v : Nat, v < 256 ∧ w.cell? ⟨g, j, none⟩ = some (.int .u8 v)
  free : ∀ o, w.frozen? ⟨g, o, none⟩ = false
  lt : g < w.heap.size
theorem Wby.of_bys {w : World} {g n : Nat} {z : Nat → Nat} (hz : ∀ i, z i < 256) (h : Bys w g 0 n z) (f : ∀ o, w.frozen? ⟨g, o, none⟩ = false) : Wby w g n :=
  ⟨fun j hj => ⟨z j, hz j, by have := h.at_ j hj; rw [Nat.zero_add] at this; exact this⟩, f, h.lt⟩
theorem Wby.set {w : World} {g n k : Nat} (h : Wby w g n) (v : Nat) (hv : v < 256) (hk : k < n) : Wby (w.setCell ⟨g, k, none⟩ (.int .u8 v)) g n := by
  refine ⟨fun j hj => ?_, fun o => by simp [h.free o], by simp [h.lt]⟩
  by_cases e : j = k
  · subst e
    obtain ⟨u, _, hc⟩ := h.at_ j hj
    exact ⟨v, hv, World.cell?_setCell_same _ _ _ hc⟩
  · obtain ⟨u, hu, hc⟩ := h.at_ j hj
    exact ⟨u, hu, by rw [World.cell?_setCell_other _ _ _ _ (fun h => e (by injection h with _ h2; exact h2.symm)), hc]⟩
theorem Wby.below {w w1 : World} {B g n : Nat} (t : Wby w g n) (hb : Below B w w1) (h : g < B) : Wby w1 g n :=
  ⟨fun j hj => by obtain ⟨v, hv, hc⟩ := t.at_ j hj; exact ⟨v, hv, by rw [(bcell hb).1 g _ h]; exact hc⟩, fun o => by rw [(bcell hb).2 g o h]; exact t.free o, Nat.lt_of_lt_of_le t.lt hb.size⟩
theorem wrap_succ (v : Nat) : IntKind.u8.wrap ((v : Int) + 1) = (((v + 1) % 256 : Nat) : Int) := by rw [IntKind.wrap_u8]; omega
/-- A row of one's own is kept by calls that turn nothing that was there. -/
theorem own_below {w w1 : World} {B base n size : Nat} {e : TypeId} {v : Value} {xs : List Value} (h : w.ownsRow base e size v n xs) (hb : Below B w w1) (hl : ∀ k, v.ownBlock = some k → k < B) : w1.ownsRow base e size v n xs := by
  refine ⟨h.1, ?_⟩
  rcases h.2 with h0 | ⟨g, cap, cur, hv, h1, h2, h3⟩
  · exact .inl h0
  · exact .inr ⟨g, cap, cur, hv, h1, by rw [hb.block g (hl g (by rw [hv]; rfl))]; exact h2, h3⟩
theorem vals_cons (z : Nat → Nat) (n : Nat) : .int .u8 (z 0 : Nat) :: vals (fun i => z (1 + i)) n = vals z (1 + n) := by
  simp [vals, List.range_add]
theorem vals_add (z : Nat → Nat) (m n : Nat) : vals z m ++ vals (fun i => z (m + i)) n = vals z (m + n) := by
  simp [vals, List.range_add]
theorem vals_congr (y z : Nat → Nat) (n : Nat) (h : ∀ i, i < n → y i = z i) : vals y n = vals z n := by
  simp only [vals]
  refine List.map_congr_left fun i hi => ?_
  rw [h i (List.mem_range.mp hi)]
/-- The room behind a row. -/
theorem cap_of_row {w : World} {base n cap g : Nat} {xs : List Value} (h : w.ownsRow base 5 1 (.slice (some ⟨g, 0, none⟩) n cap) n xs) : n ≤ cap ∧ cap ≤ maxLen := by
  rcases h.2 with ⟨h0, _⟩ | ⟨g', cap', cur, hv, _, _, h1, h2, _⟩
  · cases h0
  · cases hv; exact ⟨h1, h2⟩
/-- Two numbers, one behind the other. -/
def pair (x y : Nat) (i : Nat) : Nat := if i = 0 then x else y
theorem pair_lt (x y : Nat) (hx : x < 18446744073709551616) (hy : y < 18446744073709551616) (i : Nat) : pair x y i < 18446744073709551616 := by unfold pair; split <;> assumption
theorem pair_cells (W : World) (x y : Nat) (t : TypeId) : ∀ i, i < 2 → (W.alloc (.cells #[.int .u64 x, .int .u64 y] t)).cell? ⟨W.heap.size, 0 + i, none⟩ = some (.int .u64 (pair x y i : Nat)) := by
  intro i hi
  rw [Nat.zero_add, World.cell?_alloc_new]
  have h : i = 0 ∨ i = 1 := by omega
  rcases h with rfl | rfl <;> rfl
end Go.Proofs.YtoigpjaffggekaaDoor

namespace Go.Proofs.YtoigpjaffggekaaDoor
open Go.RowKit Go.Proofs
set_option linter.unusedVariables false
set_option linter.unusedSimpArgs false
attribute [local go_sem ↓] Go.wp_at_zero Go.wp_at_succ

theorem TabOk.below {w w1 : World} {B : Nat} (h : TabOk w) (hb : Below B w w1) (hB : 0 < B) : TabOk w1 := by
  unfold TabOk at *
  rw [(bcell hb).1 _ _ hB]
  exact h
theorem TabOk.lt {w : World} (h : TabOk w) : 0 < w.heap.size := by
  have := World.block_lt_of_cell? _ _ h
  simpa using this

/-! The points of one Y -/

set_option maxHeartbeats 1000000 in
theorem eat_core (y q a b c s x : Int) (er : Value) (xv yv : Int) (w : World)
   (c0 : ∀ w, Calls Tryd.prog 37 #[.int .u64 y, .int .u64 y] w fun e w' => e = .returned (.int .u64 q) ∧ ∃ n, w' = w.drewN n)
   (c1 : ∀ w, Calls Tryd.prog 38 #[.int .u64 q, .int .u64 1] w fun e w' => e = .returned (.int .u64 a) ∧ w = w')
   (c2 : ∀ w, Calls Tryd.prog 37 #[.int .u64 439, .int .u64 q] w fun e w' => e = .returned (.int .u64 b) ∧ ∃ n, w' = w.drewN n)
   (c3 : ∀ w, Calls Tryd.prog 39 #[.int .u64 b, .int .u64 1] w fun e w' => e = .returned (.int .u64 c) ∧ w = w')
   (c4 : ∀ w, Calls Tryd.prog 51 #[.int .u64 a, .int .u64 c] w fun e w' => e = .returned (.int .u64 s) ∧ ∃ n, w' = w.drewN n)
   (c5 : ∀ w1, Below w.heap.size w w1 → Calls Tryd.prog 50 #[.int .u64 s] w1 fun e w' => e = .returned (.tuple #[.int .u64 x, er]) ∧ ∃ n, w' = w1.drewN n)
   (her : (er = .nilIface ∧ xv = x ∧ yv = y) ∨ (er = .iface 30 (.int .i64 2) ∧ xv = 0 ∧ yv = 0)) :
    Calls Tryd.prog 28 #[.int .u64 y] w fun e w' => e = .returned (.tuple #[.agg #[.int .u64 xv, .int .u64 yv], er]) ∧ Below w.heap.size w w' := by
  rcases her with ⟨rfl, rfl, rfl⟩ | ⟨rfl, rfl, rfl⟩
  · go_enter Tryd.func28, Tryd.ntmps28
    go_wp2_with (first | (first | (go_at_call 37; first | (with_reducible refine (c0 _).mono ?_; rintro e w' ⟨rfl, nd, rfl⟩) | (with_reducible refine (c2 _).mono ?_; rintro e w' ⟨rfl, nd, rfl⟩)) | (go_at_call 38; first | (with_reducible refine (c1 _).mono ?_; rintro e w' ⟨rfl, rfl⟩)) | (go_at_call 39; first | (with_reducible refine (c3 _).mono ?_; rintro e w' ⟨rfl, rfl⟩)) | (go_at_call 51; first | (with_reducible refine (c4 _).mono ?_; rintro e w' ⟨rfl, nd, rfl⟩))) | (go_at_call 50; with_reducible refine (c5 _ (by (repeat' (first | (with_reducible first | exact Below.refl _ _ | assumption | refine Below.alloc ?_ ?_ _ | refine Below.drew ?_ | refine below_drewN ?_ _ | refine Below.setCell ?_ ?_ _ | refine below_via (by with_reducible assumption) ?_ ?_) | omega | (simp only [szs]; omega) | (simp only [szs] at *; omega))))).mono ?_; rintro e w' ⟨rfl, nd, rfl⟩))
    exact bodyPost_ret (v := .tuple #[.agg #[.int .u64 xv, .int .u64 yv], .nilIface]) (by simp [results, Tryd.results28, go_sem, *]) rfl ⟨rfl, by (repeat' (first | (with_reducible first | exact Below.refl _ _ | assumption | refine Below.alloc ?_ ?_ _ | refine Below.drew ?_ | refine below_drewN ?_ _ | refine Below.setCell ?_ ?_ _ | refine below_via (by with_reducible assumption) ?_ ?_) | omega | (simp only [szs]; omega) | (simp only [szs] at *; omega)))⟩
  · go_enter Tryd.func28, Tryd.ntmps28
    go_wp2_with (first | (first | (go_at_call 37; first | (with_reducible refine (c0 _).mono ?_; rintro e w' ⟨rfl, nd, rfl⟩) | (with_reducible refine (c2 _).mono ?_; rintro e w' ⟨rfl, nd, rfl⟩)) | (go_at_call 38; first | (with_reducible refine (c1 _).mono ?_; rintro e w' ⟨rfl, rfl⟩)) | (go_at_call 39; first | (with_reducible refine (c3 _).mono ?_; rintro e w' ⟨rfl, rfl⟩)) | (go_at_call 51; first | (with_reducible refine (c4 _).mono ?_; rintro e w' ⟨rfl, nd, rfl⟩))) | (go_at_call 50; with_reducible refine (c5 _ (by (repeat' (first | (with_reducible first | exact Below.refl _ _ | assumption | refine Below.alloc ?_ ?_ _ | refine Below.drew ?_ | refine below_drewN ?_ _ | refine Below.setCell ?_ ?_ _ | refine below_via (by with_reducible assumption) ?_ ?_) | omega | (simp only [szs]; omega) | (simp only [szs] at *; omega))))).mono ?_; rintro e w' ⟨rfl, nd, rfl⟩))
    exact bodyPost_ret (v := .tuple #[.agg #[.int .u64 0, .int .u64 0], .iface 30 (.int .i64 2)]) (by simp [results, Tryd.results28, go_sem, *]) rfl ⟨rfl, by (repeat' (first | (with_reducible first | exact Below.refl _ _ | assumption | refine Below.alloc ?_ ?_ _ | refine Below.drew ?_ | refine below_drewN ?_ _ | refine Below.setCell ?_ ?_ _ | refine below_via (by with_reducible assumption) ?_ ?_) | omega | (simp only [szs]; omega) | (simp only [szs] at *; omega)))⟩
theorem gsqr_code (y : Fin Ob.RE) : (y * y - 1) * Ob.ginv (439 * (y * y) + 1) = Ob.gsqr y := by
  have e : 439 * (y * y) + 1 = 1 + 439 * (y * y) := by generalize (439 : Fin Ob.RE) = d; grobner
  rw [e]; rfl
theorem eatW_pre (y : Nat) (hy : y < 18446744073709551616) (x : Int) (er : Value) (xv yv : Int) (w : World)
   (c5 : ∀ w1, Below w.heap.size w w1 → Calls Tryd.prog 50 #[.int .u64 ((Ob.gsqr (Ob.toG y)).val : Nat)] w1 fun e w' => e = .returned (.tuple #[.int .u64 x, er]) ∧ ∃ n, w' = w1.drewN n)
   (her : (er = .nilIface ∧ xv = x ∧ yv = y) ∨ (er = .iface 30 (.int .i64 2) ∧ xv = 0 ∧ yv = 0)) :
    Calls Tryd.prog 28 #[.int .u64 y] w fun e w' => e = .returned (.tuple #[.agg #[.int .u64 xv, .int .u64 yv], er]) ∧ Below w.heap.size w w' := by
  have c1 := eminusW (Ob.toG y * Ob.toG y).val 1 (Ob.G_word _) (by decide)
  have c2 := etimesW 439 (Ob.toG y * Ob.toG y).val (by decide) (Ob.G_word _)
  have c3 := eplusW (439 * (Ob.toG y * Ob.toG y)).val 1 (Ob.G_word _) (by decide)
  rw [Ob.toG_of_val] at c1 c2 c3
  have hd : 439 * (Ob.toG y * Ob.toG y) + Ob.toG 1 ≠ 0 := by
    rw [Ob.toG_1]
    have := Ob.gsqr_den (Ob.toG y)
    generalize (439 : Fin Ob.RE) = d at *
    intro e; apply this; grobner
  have c4 := eoverF (Ob.toG y * Ob.toG y - Ob.toG 1) (439 * (Ob.toG y * Ob.toG y) + Ob.toG 1) hd
  rw [Ob.toG_1] at c4
  rw [gsqr_code] at c4
  exact eat_core y _ _ _ _ _ x er xv yv w (etimesW y y hy hy) c1 c2 c3 c4 c5 her
/-- A Y that a point has. -/
theorem eat_yes (y : Nat) (hy : y < 18446744073709551616) (hs : Ob.Sq (Ob.gsqr (Ob.toG y)).val) (w : World) (hT : TabOk w) :
    Calls Tryd.prog 28 #[.int .u64 y] w fun e w' => e = .returned (.tuple #[.agg #[.int .u64 (Ob.rtX y : Nat), .int .u64 y], .nilIface]) ∧ Below w.heap.size w w' :=
  eatW_pre y hy _ _ _ _ w (fun w1 hb => root_yes _ w1 (hT.below hb hT.lt) (Ob.G_word _) hs) (Or.inl ⟨rfl, rfl, rfl⟩)
/-- One that none has. -/
theorem eat_no (y : Nat) (hy : y < 18446744073709551616) (hs : ¬ Ob.Sq (Ob.gsqr (Ob.toG y)).val) (w : World) :
    Calls Tryd.prog 28 #[.int .u64 y] w fun e w' => e = .returned (.tuple #[.agg #[.int .u64 0, .int .u64 0], .iface 30 (.int .i64 2)]) ∧ Below w.heap.size w w' :=
  eatW_pre y hy _ _ _ _ w (fun w1 hb => root_no _ w1 (Ob.G_word _) hs) (Or.inr ⟨rfl, rfl, rfl⟩)

/-! Bytes -/

theorem eoddW (n : Nat) (hn : n < 18446744073709551616) (w : World) :
    Calls Tryd.prog 29 #[.int .u64 n] w fun e w' => e = .returned (.bool (decide (n % 2 = 1))) ∧ w = w' := by
  have hand := and_one n hn
  by_cases h : n % 2 = 1
  · rw [h] at hand
    rw [decide_eq_true h]
    clear h
    go_enter Tryd.func29, Tryd.ntmps29
    go_wp2
    go_ret
    exact ⟨rfl, rfl⟩
  · rw [show n % 2 = 0 by omega] at hand
    rw [decide_eq_false h]
    clear h
    go_enter Tryd.func29, Tryd.ntmps29
    go_wp2
    go_ret
    exact ⟨rfl, rfl⟩
theorem or_top (y : Nat) (hy : y < 9223372036854775808) : bits .or .u64 (y : Int) 9223372036854775808 = ((y + 9223372036854775808 : Nat) : Int) := by
  have h := bits_or_u64_nat y 9223372036854775808 (by omega) (by omega)
  have e : y ||| 9223372036854775808 = y + 9223372036854775808 := by
    have := Nat.two_pow_add_eq_or_of_lt (i := 63) (show y < 2 ^ 63 from hy) 1
    rw [Nat.mul_one] at this
    rw [Nat.or_comm, show (9223372036854775808 : Nat) = 2 ^ 63 from rfl, ← this, Nat.add_comm]
  rw [e] at h
  exact h
theorem andNot_top (n : Nat) (hn : n < 18446744073709551616) : bits .andNot .u64 (n : Int) 9223372036854775808 = ((Ob.lowY n : Nat) : Int) := by
  have h := u64_andNot_nat n 9223372036854775808 hn (by omega)
  have e : n &&& (18446744073709551615 - 9223372036854775808) = Ob.lowY n := Nat.and_two_pow_sub_one_eq_mod n 63
  rw [e] at h
  exact h
theorem and_top (n : Nat) (hn : n < 18446744073709551616) : bits .and .u64 (n : Int) 9223372036854775808 = ((9223372036854775808 * Ob.topO n : Nat) : Int) := by
  have h := bits_and_u64_nat n 9223372036854775808 hn (by omega)
  have e : n &&& 9223372036854775808 = 9223372036854775808 * Ob.topO n := by
    have ho : Ob.topO n < 2 := by unfold Ob.topO; omega
    have hl : Ob.lowY n < 2 ^ 63 := by unfold Ob.lowY; omega
    rcases (show Ob.topO n = 0 ∨ Ob.topO n = 1 by omega) with h | h
    · have e1 : n = Ob.lowY n := by unfold Ob.topO Ob.lowY at *; omega
      rw [h, e1]
      apply Nat.eq_of_testBit_eq
      intro i
      rw [Nat.testBit_and, show (9223372036854775808 : Nat) = 2 ^ 63 from rfl, Nat.testBit_two_pow]
      by_cases hi : 63 = i
      · subst hi; rw [Nat.testBit_lt_two_pow hl]; simp
      · simp [hi]
    · have e1 : n = 2 ^ 63 * 1 ||| Ob.lowY n := by
        rw [← Nat.two_pow_add_eq_or_of_lt (i := 63) hl 1]
        unfold Ob.topO Ob.lowY at *; omega
      rw [h]
      conv => lhs; rw [e1]
      apply Nat.eq_of_testBit_eq
      intro i
      rw [Nat.testBit_and, Nat.testBit_or, Nat.mul_one, show (9223372036854775808 : Nat) = 2 ^ 63 from rfl, Nat.testBit_two_pow]
      by_cases hi : 63 = i
      · subst hi; simp
      · simp [hi]
  rw [e] at h
  exact h

theorem one_lt (n : Nat) (hn : n < 18446744073709551616) (i : Nat) : (fun _ : Nat => n) i < 18446744073709551616 := hn
theorem byteOf_one (n i : Nat) (hi : i < 8) : byteOf (fun _ => n) i = Ob.byteAt n i := by
  unfold byteOf
  have : i % 8 = i := by omega
  rw [this]
theorem one_cell (W : World) (n : Nat) (t : TypeId) : ∀ i, i < 1 → (W.alloc (.cells #[.int .u64 n] t)).cell? ⟨W.heap.size, 0 + i, none⟩ = some (.int .u64 ((fun _ : Nat => n) i : Nat)) := by
  intro i hi
  obtain rfl : i = 0 := by omega
  simp [go_sem]
set_option maxHeartbeats 1000000 in
theorem ewrite_core (x y n : Nat) (o : Bool) (hn : n < 18446744073709551616) (w : World)
   (c0 : ∀ w, Calls Tryd.prog 20 #[.agg #[.int .u64 x, .int .u64 y]] w fun e w' => e = .returned (.bool true) ∧ Below w.heap.size w w')
   (c1 : ∀ w, Calls Tryd.prog 29 #[.int .u64 x] w fun e w' => e = .returned (.bool o) ∧ w = w')
   (ho : (o = true ∧ bits .or .u64 (y : Int) 9223372036854775808 = (n : Int)) ∨ (o = false ∧ n = y)) :
    Calls Tryd.prog 13 #[.agg #[.int .u64 x, .int .u64 y]] w fun e w' => ∃ g, e = .returned (.tuple #[.slice (some ⟨g, 0, none⟩) 8 8, .nilIface]) ∧ w.heap.size ≤ g ∧ w'.ownsRow g 5 1 (.slice (some ⟨g, 0, none⟩) 8 8) 8 (vals (Ob.byteAt n) 8) ∧ Below w.heap.size w w' := by
  have ev := vals_congr (byteOf fun _ => n) (Ob.byteAt n) 8 (fun i hi => byteOf_one n i hi)
  have c2 := fun (W : World) => bytesW W.heap.size 0 1 1 (fun _ => n) (one_lt n hn) (W.alloc (.cells #[.int .u64 n] 22)) (by decide) (one_cell W n _) (by simp)
  rw [show 8 * 1 = 8 from rfl, ev] at c2
  clear ev
  rcases ho with ⟨rfl, hb⟩ | ⟨rfl, rfl⟩
  · go_enter Tryd.func13, Tryd.ntmps13
    go_wp2_with (first | (first | (go_at_call 20; first | (with_reducible refine (c0 _).mono ?_; rintro e w_c0 ⟨rfl, b_c0⟩; have z_c0 := b_c0.size; (try simp only [szs] at z_c0); (try (have q_c0_0 := own2 b_c0 (w.heap.size) (by first | omega | (simp only [szs]; omega)))))) | (go_at_call 29; first | (with_reducible refine (c1 _).mono ?_; rintro e w' ⟨rfl, rfl⟩))) | (go_at_call 31; with_reducible refine (c2 _).mono ?_; rintro e W2 ⟨rfl, o2, b2⟩; have z2 := b2.size; simp only [szs] at z2))
    go_ret2
    simp only [World.size_alloc] at o2 b2
    exact ⟨_, rfl, by omega, o2, by (repeat' (first | (with_reducible first | exact Below.refl _ _ | assumption | refine Below.alloc ?_ ?_ _ | refine Below.drew ?_ | refine below_drewN ?_ _ | refine Below.setCell ?_ ?_ _ | refine below_via (by with_reducible assumption) ?_ ?_) | omega | (simp only [szs]; omega) | (simp only [szs] at *; omega)))⟩
  · go_enter Tryd.func13, Tryd.ntmps13
    go_wp2_with (first | (first | (go_at_call 20; first | (with_reducible refine (c0 _).mono ?_; rintro e w_c0 ⟨rfl, b_c0⟩; have z_c0 := b_c0.size; (try simp only [szs] at z_c0); (try (have q_c0_0 := own2 b_c0 (w.heap.size) (by first | omega | (simp only [szs]; omega)))))) | (go_at_call 29; first | (with_reducible refine (c1 _).mono ?_; rintro e w' ⟨rfl, rfl⟩))) | (go_at_call 31; with_reducible refine (c2 _).mono ?_; rintro e W2 ⟨rfl, o2, b2⟩; have z2 := b2.size; simp only [szs] at z2))
    go_ret2
    simp only [World.size_alloc] at o2 b2
    exact ⟨_, rfl, by omega, o2, by (repeat' (first | (with_reducible first | exact Below.refl _ _ | assumption | refine Below.alloc ?_ ?_ _ | refine Below.drew ?_ | refine below_drewN ?_ _ | refine Below.setCell ?_ ?_ _ | refine below_via (by with_reducible assumption) ?_ ?_) | omega | (simp only [szs]; omega) | (simp only [szs] at *; omega)))⟩
theorem ewriteW {u : Ob.Ep} (hu : Ob.onG u) (w : World) :
    Calls Tryd.prog 13 #[edV u] w fun e w' => ∃ g, e = .returned (.tuple #[.slice (some ⟨g, 0, none⟩) 8 8, .nilIface]) ∧ w.heap.size ≤ g ∧ w'.ownsRow g 5 1 (.slice (some ⟨g, 0, none⟩) 8 8) 8 (vals (Ob.byteAt (Ob.edN u)) 8) ∧ Below w.heap.size w w' := by
  have c0 := eisW u.1.val u.2.val (Ob.G_word _) (Ob.G_word _)
  rw [Ob.on_isG hu] at c0
  refine ewrite_core u.1.val u.2.val (Ob.edN u) _ (Ob.edN_lt u) w c0 (eoddW u.1.val (Ob.G_word _)) ?_
  by_cases h : u.1.val % 2 = 1
  · refine Or.inl ⟨decide_eq_true h, ?_⟩
    rw [or_top _ (Nat.lt_trans (Ob.RE_small u.2) (by decide)), Ob.edN, if_pos h]
  · exact Or.inr ⟨decide_eq_false h, by rw [Ob.edN, if_neg h]⟩
set_option maxHeartbeats 1000000 in
theorem ewrite_no (x y : Int) (w : World)
   (c0 : ∀ w, Calls Tryd.prog 20 #[.agg #[.int .u64 x, .int .u64 y]] w fun e w' => e = .returned (.bool false) ∧ Below w.heap.size w w') :
    Calls Tryd.prog 13 #[.agg #[.int .u64 x, .int .u64 y]] w fun e w' => e = .returned (.tuple #[.slice none 0 0, .iface 30 (.int .i64 1)]) ∧ Below w.heap.size w w' := by
  go_enter Tryd.func13, Tryd.ntmps13
  go_wp2_with (first | (go_at_call 20; first | (with_reducible refine (c0 _).mono ?_; rintro e w_c0 ⟨rfl, b_c0⟩; have z_c0 := b_c0.size; (try simp only [szs] at z_c0); (try (have q_c0_0 := own2 b_c0 (w.heap.size) (by first | omega | (simp only [szs]; omega)))))))
  go_ret2
  exact ⟨rfl, by (repeat' (first | (with_reducible first | exact Below.refl _ _ | assumption | refine Below.alloc ?_ ?_ _ | refine Below.drew ?_ | refine below_drewN ?_ _ | refine Below.setCell ?_ ?_ _ | refine below_via (by with_reducible assumption) ?_ ?_) | omega | (simp only [szs]; omega) | (simp only [szs] at *; omega)))⟩
end Go.Proofs.YtoigpjaffggekaaDoor

namespace Go.Proofs.YtoigpjaffggekaaDoor
open Go.RowKit Go.Proofs
set_option linter.unusedVariables false
set_option linter.unusedSimpArgs false
attribute [local go_sem ↓] Go.wp_at_zero Go.wp_at_succ

set_option maxHeartbeats 1000000 in
theorem gbytes_core (x y n : Nat) (o : Bool) (w : World) (hx : decide ((x : Int) % 2 = 1) = o)
   (c0 : ∀ w, Calls Tryd.prog 10 #[.int .u64 n] w fun e w' => e = .returned (.slice (some ⟨w.heap.size, 0, none⟩) 8 8) ∧ Bys w' w.heap.size 0 8 (Ob.byteAt n) ∧ Below w.heap.size w w')
   (ho : (o = true ∧ (y : Int) + 9223372036854775808 = (n : Int) ∧ n < 18446744073709551616) ∨ (o = false ∧ n = y)) :
    Calls Tryd.prog 15 #[.agg #[.int .u64 x, .int .u64 y]] w fun e w' => ∃ g, e = .returned (.slice (some ⟨g, 0, none⟩) 8 8) ∧ w.heap.size ≤ g ∧ Bys w' g 0 8 (Ob.byteAt n) ∧ Below w.heap.size w w' := by
  rcases ho with ⟨rfl, hb, hn⟩ | ⟨rfl, rfl⟩
  · have h1 : (x : Int) % 2 = 1 := of_decide_eq_true hx
    clear hx
    go_enter Tryd.func15, Tryd.ntmps15
    go_wp2_with (go_at_call 10; with_reducible refine (c0 _).mono ?_; rintro e W2 ⟨rfl, y2, b2⟩)
    go_ret
    simp only [World.size_alloc] at y2 b2
    exact ⟨_, rfl, by omega, y2, by (repeat' (first | (with_reducible first | exact Below.refl _ _ | assumption | refine Below.alloc ?_ ?_ _ | refine Below.drew ?_ | refine below_drewN ?_ _ | refine Below.setCell ?_ ?_ _ | refine below_via (by with_reducible assumption) ?_ ?_) | omega | (simp only [szs]; omega) | (simp only [szs] at *; omega)))⟩
  · have h1 : (x : Int) % 2 = 0 := by have := of_decide_eq_false hx; omega
    clear hx
    go_enter Tryd.func15, Tryd.ntmps15
    go_wp2_with (go_at_call 10; with_reducible refine (c0 _).mono ?_; rintro e W2 ⟨rfl, y2, b2⟩)
    go_ret
    simp only [World.size_alloc] at y2 b2
    exact ⟨_, rfl, by omega, y2, by (repeat' (first | (with_reducible first | exact Below.refl _ _ | assumption | refine Below.alloc ?_ ?_ _ | refine Below.drew ?_ | refine below_drewN ?_ _ | refine Below.setCell ?_ ?_ _ | refine below_via (by with_reducible assumption) ?_ ?_) | omega | (simp only [szs]; omega) | (simp only [szs] at *; omega)))⟩
theorem gbytesW (u : Ob.Ep) (w : World) :
    Calls Tryd.prog 15 #[edV u] w fun e w' => ∃ g, e = .returned (.slice (some ⟨g, 0, none⟩) 8 8) ∧ w.heap.size ≤ g ∧ Bys w' g 0 8 (Ob.byteAt (Ob.edN u)) ∧ Below w.heap.size w w' := by
  have hl := Ob.edN_lt u
  refine gbytes_core u.1.val u.2.val (Ob.edN u) _ w rfl (fun w => rbytesW (Ob.edN u) hl w) ?_
  by_cases h : u.1.val % 2 = 1
  · exact Or.inl ⟨decide_eq_true (by omega), by rw [Ob.edN, if_pos h]; omega, hl⟩
  · exact Or.inr ⟨decide_eq_false (by omega), by rw [Ob.edN, if_neg h]⟩

end Go.Proofs.YtoigpjaffggekaaDoor

namespace Go.Proofs.YtoigpjaffggekaaDoor
open Go.RowKit Go.Proofs
set_option linter.unusedVariables false
set_option linter.unusedSimpArgs false
attribute [local go_sem ↓] Go.wp_at_zero Go.wp_at_succ

set_option maxHeartbeats 1000000 in
theorem gsquare_core (y q a b c r : Int) (w : World)
   (c0 : ∀ w, Calls Tryd.prog 32 #[.int .u64 y, .int .u64 y] w fun e w' => e = .returned (.int .u64 q) ∧ w = w')
   (c1 : ∀ w, Calls Tryd.prog 35 #[.int .u64 q, .int .u64 1] w fun e w' => e = .returned (.int .u64 a) ∧ w = w')
   (c2 : ∀ w, Calls Tryd.prog 32 #[.int .u64 439, .int .u64 q] w fun e w' => e = .returned (.int .u64 b) ∧ w = w')
   (c3 : ∀ w, Calls Tryd.prog 33 #[.int .u64 1, .int .u64 b] w fun e w' => e = .returned (.int .u64 c) ∧ w = w')
   (c4 : ∀ w, Calls Tryd.prog 34 #[.int .u64 a, .int .u64 c] w fun e w' => e = .returned (.int .u64 r) ∧ w = w') :
    Calls Tryd.prog 17 #[.int .u64 y] w fun e w' => e = .returned (.int .u64 r) ∧ w = w' := by
  go_enter Tryd.func17, Tryd.ntmps17
  go_wp2_with (first | (go_at_call 32; first | (with_reducible refine (c0 _).mono ?_; rintro e w' ⟨rfl, rfl⟩) | (with_reducible refine (c2 _).mono ?_; rintro e w' ⟨rfl, rfl⟩)) | (go_at_call 35; first | (with_reducible refine (c1 _).mono ?_; rintro e w' ⟨rfl, rfl⟩)) | (go_at_call 33; first | (with_reducible refine (c3 _).mono ?_; rintro e w' ⟨rfl, rfl⟩)) | (go_at_call 34; first | (with_reducible refine (c4 _).mono ?_; rintro e w' ⟨rfl, rfl⟩)))
  go_ret
  exact ⟨rfl, rfl⟩
theorem gsquareW (y : Nat) (hy : y < 18446744073709551616) (w : World) :
    Calls Tryd.prog 17 #[.int .u64 y] w fun e w' => e = .returned (.int .u64 ((Ob.gsqr (Ob.toG y)).val : Nat)) ∧ w = w' := by
  have c1 := glessW (Ob.toG y * Ob.toG y).val 1 (Ob.G_word _) (by decide)
  have c2 := gmulW 439 (Ob.toG y * Ob.toG y).val (by decide) (Ob.G_word _)
  have c3 := gplusW 1 (439 * (Ob.toG y * Ob.toG y)).val (by decide) (Ob.G_word _)
  have c4 := goverW (Ob.toG y * Ob.toG y - 1).val (1 + 439 * (Ob.toG y * Ob.toG y)).val (Ob.G_word _) (Ob.G_word _)
  rw [Ob.toG_of_val] at c1 c2 c3
  rw [Ob.toG_of_val, Ob.toG_of_val] at c4
  rw [Ob.toG_1] at c1 c3
  exact gsquare_core y _ _ _ _ _ w (gmulW y y hy hy) c1 c2 c3 c4
end Go.Proofs.YtoigpjaffggekaaDoor

namespace Go.Proofs.YtoigpjaffggekaaDoor
open Go.RowKit Go.Proofs
set_option linter.unusedVariables false
set_option linter.unusedSimpArgs false

theorem cells2 {w : World} {a : Nat} {x y : Value} (t : Two w a x y) : w.cell? ⟨a, 0, none⟩ = some x ∧ w.cell? ⟨a, 1, none⟩ = some y := ⟨t.c0, t.c1⟩
theorem cells3 {w : World} {a : Nat} {x y z : Value} (t : Three w a x y z) : w.cell? ⟨a, 0, none⟩ = some x ∧ w.cell? ⟨a, 1, none⟩ = some y ∧ w.cell? ⟨a, 2, none⟩ = some z := ⟨t.c0, t.c1, t.c2⟩
theorem cells_and {A B C : Prop} (h : A ∧ B) (k : C) : A ∧ B ∧ C := ⟨h.1, h.2, k⟩
theorem cells_and3 {A B C D : Prop} (h : A ∧ B ∧ C) (k : D) : A ∧ B ∧ C ∧ D := ⟨h.1, h.2.1, h.2.2, k⟩
end Go.Proofs.YtoigpjaffggekaaDoor
