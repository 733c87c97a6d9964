/-
  Joined texts: The walks of package pedersen. Errors that are codes, compared. The head of all statements of layer 8. How points of the Edwards curve that came in are opened. What the rows of this seat that lay four tables share: those tables, and the start that fits.
-/
import Derived.Test.YtkekomiaiaacaaaDoorJ5
import Derived.Test.YtkekomiaiaacaaaDoorJ3
import Derived.Test.YtkekomiaiaacaaaDoorJ1
import Derived.Test.YtkekomiaiaacaaaDoorJ2
import Derived.Lib.SmallJoins
import Derived.LaidMore
import Derived.Lib.LaidTab
import Derived.Stop.Joined

namespace Go.Proofs.YtkekomiaiaacaaaDoor
open Go.RowKit Go.Proofs
set_option linter.unusedVariables false
set_option linter.unusedSimpArgs false
attribute [local go_sem ↓] Go.wp_at_zero Go.wp_at_succ

theorem prestW (n : Nat) (hn : n < 18446744073709551616) (w : World) :
    Calls Tryd.prog 42 #[.int .u64 n] w fun e w' => e = .returned (.int .u64 (n % 72057593894066549 : Nat)) ∧ w = w' := by
  have c0 := fun w => add_any 72057593894066549 n 0 w (by decide) hn (by decide)
  rw [show Ob.add 72057593894066549 n 0 = n % 72057593894066549 from Ob.add_yes ⟨by decide, by decide⟩] at c0
  obtain ⟨r, hr⟩ : ∃ r, Hid (n % 72057593894066549 = r) := ⟨_, rfl⟩
  rw [hr.out] at c0 ⊢
  have c1 : ∀ w, Calls Tryd.prog 55 #[.int .u64 72057593894066549, .int .u64 n, .int .u64 0] w fun e w' => e = .returned (.int .u64 (r : Nat)) ∧ w = w' := c0
  go_enter Tryd.func42, Tryd.ntmps42
  go_wp2_with (first | (go_at_call 55; first | (with_reducible refine (c1 _).mono ?_; rintro e w' ⟨rfl, rfl⟩)))
  go_ret
  exact ⟨rfl, rfl⟩

set_option maxHeartbeats 1000000 in
theorem pbase_core (n x y : Int) (er : Value) (w : World)
   (c0 : Calls Tryd.prog 10 #[.string pedS, .int .u64 n] (w.alloc (.cells #[.int .u64 0, .int .u64 0] 25)) fun e w' => e = .returned (.tuple #[.agg #[.int .u64 x, .int .u64 y], er]) ∧ Below (w.heap.size + 1) (w.alloc (.cells #[.int .u64 0, .int .u64 0] 25)) w') :
    Calls Tryd.prog 9 #[.int .u64 n] w fun e w' => e = .returned (.tuple #[.agg #[.int .u64 x, .int .u64 y], er]) ∧ Below w.heap.size w w' := by
  unfold pedS at c0
  go_enter Tryd.func9, Tryd.ntmps9
  go_wp2_with (go_at_call 10; (with_reducible refine c0.mono ?_); rintro e w1 ⟨rfl, b1⟩; have z1 := b1.size; (try simp only [szs] at z1); have q1 := own2 b1 w.heap.size (by omega) (by simp only [szs]; omega))
  exact bodyPost_ret (v := .tuple #[.agg #[.int .u64 x, .int .u64 y], er]) (by simp [results, Tryd.results9, go_sem, *]) rfl ⟨rfl, by (repeat' (first | (with_reducible first | exact Below.refl _ _ | assumption | refine Below.alloc ?_ ?_ _ | refine Below.drew ?_ | refine below_drewN ?_ _ | refine Below.setCell ?_ ?_ _ | refine below_via (by with_reducible assumption) ?_ ?_) | omega | (simp only [szs]; omega) | (simp only [szs] at *; omega)))⟩
theorem pedS_size : pedS.size ≤ 8 := by decide
theorem pbaseW (n : Nat) (hn : n < 18446744073709551616) (w : World) (hT : TabOk w) (hTs : Tabs w) :
    Calls Tryd.prog 9 #[.int .u64 n] w fun e w' => e = .returned (fndV (findY pedS n) (Ob.firstG (findY pedS n) 128 0)) ∧ Below w.heap.size w w' := by
  have hb : Below w.heap.size w (w.alloc (.cells #[.int .u64 0, .int .u64 0] 25)) := (Below.refl w.heap.size w).alloc (Nat.le_refl _) _
  have c0 := efindW pedS pedS_size n hn (w.alloc (.cells #[.int .u64 0, .int .u64 0] 25)) (hT.below hb hT.lt) (hTs.below hb hTs.lt)
  obtain ⟨x, y, er, h⟩ := fndV_eq (findY pedS n) (Ob.firstG (findY pedS n) 128 0)
  rw [h] at c0 ⊢
  rw [World.size_alloc] at c0
  exact pbase_core n x y er w c0
/-- A base that is there. -/
theorem pbaseP (n : Nat) (hn : n ≤ 5) (w : World) (hT : TabOk w) (hTs : Tabs w) :
    Calls Tryd.prog 9 #[.int .u64 n] w fun e w' => e = .returned (.tuple #[edV (baseP n), .nilIface]) ∧ Below w.heap.size w w' := by
  have c := pbaseW n (by omega) w hT hTs
  obtain ⟨k, hk⟩ := base_some n hn
  have e : fndV (findY pedS n) (Ob.firstG (findY pedS n) 128 0) = .tuple #[edV (baseP n), .nilIface] := by
    unfold baseP
    rw [hk]
    rfl
  rw [e] at c
  exact c
/-- Sums of points that are told by their fields. -/
theorem eaddE {a b : Ob.Ep} (ha : Ob.onG a) (hb : Ob.onG b) (w : World) :
    Calls Tryd.prog 16 #[edV a, edV b] w fun e w' => e = .returned (edV (Ob.gadd a b)) ∧ Below w.heap.size w w' := by
  have := eaddW a.1.val a.2.val b.1.val b.2.val (Ob.G_word _) (Ob.G_word _) (Ob.G_word _) (Ob.G_word _) w
  rw [Ob.ofG_val ha, Ob.ofG_val hb] at this
  exact this
theorem emulE {a : Ob.Ep} (ha : Ob.onG a) (n : Nat) (hn : n < 18446744073709551616) (w : World) :
    Calls Tryd.prog 41 #[edV a, .int .u64 n] w fun e w' => e = .returned (edV (Ob.gmul a n)) ∧ Below w.heap.size w w' := by
  have := emulW a.1.val a.2.val n (Ob.G_word _) (Ob.G_word _) hn w
  rw [Ob.ofG_val ha] at this
  exact this
/-- How often each base. -/
def rests (v : Nat → Nat) (i : Nat) : Nat := v i % 72057593894066549

attribute [local irreducible] Ob.gmul Ob.gadd baseP Ob.gcom
set_option maxHeartbeats 4000000 in
theorem ptogetherW (b off m c : Nat) (v : Nat → Nat) (hv : ∀ i, v i < 18446744073709551616) (hm : m ≤ 6) (w : World) (hT : TabOk w) (hTs : Tabs w) (hW : Wds w b off m v) :
    Calls Tryd.prog 23 #[.func (.func 9) #[] #[], .slice (some ⟨b, off, none⟩) m c] w fun e w' => e = .returned (.tuple #[edV (Ob.gcom baseP (rests v) m), .nilIface]) ∧ Below w.heap.size w w' := by
  have hT' : Hid (TabOk w ∧ Tabs w) := ⟨hT, hTs⟩
  have hW' : Hid (Wds w b off m v) := hW
  have hv' : Hid (∀ i, v i < 18446744073709551616) := hv
  clear hT hTs hv
  have hlt := hW.lt
  clear hW
  obtain ⟨T, hF⟩ : ∃ T, Hid (Ob.gcom baseP (rests v) m = T) := ⟨_, rfl⟩
  rw [hF.out]
  unfold edV
  go_enter Tryd.func23, Tryd.ntmps23
  go_wp2
  go_loopw [14] (fun sk wr => ∃ (k : Nat) (t : Ob.Ep), k ≤ m ∧ sk = .int .i64 k ∧ Two wr w.heap.size (.int .u64 0) (.int .u64 0) ∧ Two wr (w.heap.size + 1) (.int .u64 (t.1.val : Nat)) (.int .u64 (t.2.val : Nat)) ∧ Below w.heap.size w wr ∧ Hid (Ob.gcom baseP (rests v) k = t)) (fun sk _ => m - (intOf sk).toNat)
  case atStart => exact ⟨0, Ob.gzero, by omega, rfl, by (repeat' (first | (with_reducible first | assumption | exact Two.own (by with_reducible assumption) | refine Two.set ?_ _ _ | refine Own2.set ?_ _ _ | refine Two.drew ?_ | refine Two.drewN ?_ _ | refine Own2.drew ?_ | refine Own2.drewN ?_ _ | (refine Two.new ?_; simp only [szs]; done) | (refine Own2.new ?_; simp only [szs]; done) | refine Two.alloc ?_ _ | refine Own2.alloc ?_ _ | refine Two.far ?_ ?_ _ _ | refine Own2.far ?_ ?_ _ _ | refine Two.via (by with_reducible assumption) ?_ ?_ | refine Own2.via (by with_reducible assumption) ?_ ?_) | omega | (simp only [szs]; omega))), (show Two _ _ (.int .u64 0) (.int .u64 1) from by (repeat' (first | (with_reducible first | assumption | exact Two.own (by with_reducible assumption) | refine Two.set ?_ _ _ | refine Own2.set ?_ _ _ | refine Two.drew ?_ | refine Two.drewN ?_ _ | refine Own2.drew ?_ | refine Own2.drewN ?_ _ | (refine Two.new ?_; simp only [szs]; done) | (refine Own2.new ?_; simp only [szs]; done) | refine Two.alloc ?_ _ | refine Own2.alloc ?_ _ | refine Two.far ?_ ?_ _ _ | refine Own2.far ?_ ?_ _ _ | refine Two.via (by with_reducible assumption) ?_ ?_ | refine Own2.via (by with_reducible assumption) ?_ ?_) | omega | (simp only [szs]; omega)))), by (repeat' (first | (with_reducible first | exact Below.refl _ _ | assumption | refine Below.alloc ?_ ?_ _ | refine Below.drew ?_ | refine below_drewN ?_ _ | refine Below.setCell ?_ ?_ _ | refine below_via (by with_reducible assumption) ?_ ?_) | omega | (simp only [szs]; omega) | (simp only [szs] at *; omega))), by show Ob.gcom baseP (rests v) 0 = _; rw [Ob.gcom]⟩
  case round =>
    obtain ⟨k, t, hk, rfl, t1, t2, hB, hI⟩ := hrel
    have ⟨d1, d2, d3, d4, d5⟩ := t1
    have ⟨e1, e2, e3, e4, e5⟩ := t2
    by_cases hlk : k < m
    · have hlk' : (k : Int) < (m : Int) := by omega
      have hc : wr.cell? ⟨b, off + k, none⟩ = some (.int .u64 (v k : Nat)) := by rw [(bcell hB).1 b _ hlt]; exact hW'.out.at_ k hlk
      have hwk : IntKind.u64.wrap (k : Int) = (k : Int) := wrapNat k (by omega)
      have cb := fun (W : World) (h : Below w.heap.size w W) => pbaseP k (by omega) W (hT'.out.1.below h hT'.out.1.lt) (hT'.out.2.below h hT'.out.2.lt)
      have cr := prestW (v k) (hv'.out k)
      have cm := emulE (baseP_on k) (v k % 72057593894066549) (Nat.lt_trans (Nat.mod_lt _ (by decide)) (by decide))
      have ca := eaddE (a := t) (by rw [← hI.out]; exact Ob.gcom_on baseP_on _ _) (Ob.onG_mul (baseP_on k) (v k % 72057593894066549))
      have hI' : Hid (Ob.gcom baseP (rests v) (k + 1) = Ob.gadd t (Ob.gmul (baseP k) (v k % 72057593894066549))) := by
        show Ob.gcom baseP (rests v) (k + 1) = _
        rw [Ob.gcom, hI.out]; rfl
      generalize Ob.gadd t (Ob.gmul (baseP k) (v k % 72057593894066549)) = t' at *
      generalize Ob.gmul (baseP k) (v k % 72057593894066549) = u at *
      generalize baseP k = B at *
      generalize v k % 72057593894066549 = r at *
      generalize v k = vk at *
      clear hI
      unfold edV at cb cm ca
      go_upto_region 6 with (go_at_call 9; (with_reducible refine (cb _ hB).mono ?_); rintro e w1 ⟨rfl, b1⟩)
      have z1 := b1.size
      have s2 : Two (w1.alloc (.cells #[.int .u64 (B.1.val : Nat), .int .u64 (B.2.val : Nat)] 25)) w.heap.size (.int .u64 0) (.int .u64 0) := by (repeat' (first | (with_reducible first | assumption | exact Two.own (by with_reducible assumption) | refine Two.set ?_ _ _ | refine Own2.set ?_ _ _ | refine Two.drew ?_ | refine Two.drewN ?_ _ | refine Own2.drew ?_ | refine Own2.drewN ?_ _ | (refine Two.new ?_; simp only [szs]; done) | (refine Own2.new ?_; simp only [szs]; done) | refine Two.alloc ?_ _ | refine Own2.alloc ?_ _ | refine Two.far ?_ ?_ _ _ | refine Own2.far ?_ ?_ _ _ | refine Two.via (by with_reducible assumption) ?_ ?_ | refine Own2.via (by with_reducible assumption) ?_ ?_) | omega | (simp only [szs]; omega)))
      have s3 : Two (w1.alloc (.cells #[.int .u64 (B.1.val : Nat), .int .u64 (B.2.val : Nat)] 25)) (w.heap.size + 1) (.int .u64 (t.1.val : Nat)) (.int .u64 (t.2.val : Nat)) := by (repeat' (first | (with_reducible first | assumption | exact Two.own (by with_reducible assumption) | refine Two.set ?_ _ _ | refine Own2.set ?_ _ _ | refine Two.drew ?_ | refine Two.drewN ?_ _ | refine Own2.drew ?_ | refine Own2.drewN ?_ _ | (refine Two.new ?_; simp only [szs]; done) | (refine Own2.new ?_; simp only [szs]; done) | refine Two.alloc ?_ _ | refine Own2.alloc ?_ _ | refine Two.far ?_ ?_ _ _ | refine Own2.far ?_ ?_ _ _ | refine Two.via (by with_reducible assumption) ?_ ?_ | refine Own2.via (by with_reducible assumption) ?_ ?_) | omega | (simp only [szs]; omega)))
      have s4 : Two (w1.alloc (.cells #[.int .u64 (B.1.val : Nat), .int .u64 (B.2.val : Nat)] 25)) w1.heap.size (.int .u64 (B.1.val : Nat)) (.int .u64 (B.2.val : Nat)) := by (repeat' (first | (with_reducible first | assumption | exact Two.own (by with_reducible assumption) | refine Two.set ?_ _ _ | refine Own2.set ?_ _ _ | refine Two.drew ?_ | refine Two.drewN ?_ _ | refine Own2.drew ?_ | refine Own2.drewN ?_ _ | (refine Two.new ?_; simp only [szs]; done) | (refine Own2.new ?_; simp only [szs]; done) | refine Two.alloc ?_ _ | refine Own2.alloc ?_ _ | refine Two.far ?_ ?_ _ _ | refine Own2.far ?_ ?_ _ _ | refine Two.via (by with_reducible assumption) ?_ ?_ | refine Own2.via (by with_reducible assumption) ?_ ?_) | omega | (simp only [szs]; omega)))
      have hB1 : Below w.heap.size w (w1.alloc (.cells #[.int .u64 (B.1.val : Nat), .int .u64 (B.2.val : Nat)] 25)) := by have := hB.size; (repeat' (first | (with_reducible first | exact Below.refl _ _ | assumption | refine Below.alloc ?_ ?_ _ | refine Below.drew ?_ | refine below_drewN ?_ _ | refine Below.setCell ?_ ?_ _ | refine below_via (by with_reducible assumption) ?_ ?_) | omega | (simp only [szs]; omega) | (simp only [szs] at *; omega)))
      have n1 : w.heap.size ≠ w1.heap.size := by omega
      have n2 : w1.heap.size ≠ w.heap.size := by omega
      have n3 : w.heap.size + 1 ≠ w1.heap.size := by omega
      have n4 : w1.heap.size ≠ w.heap.size + 1 := by omega
      generalize (w1.alloc (.cells #[.int .u64 (B.1.val : Nat), .int .u64 (B.2.val : Nat)] 25)) = W at *
      generalize w1.heap.size = bx at *
      clear b1 z1 cb hB t1 t2 d1 d2 d3 d4 d5 e1 e2 e3 e4 e5 hc
      go_wp2
      have ⟨d1, d2, d3, d4, d5⟩ := s2
      have ⟨e1, e2, e3, e4, e5⟩ := s3
      have ⟨f1, f2, f3, f4, f5⟩ := s4
      have zB := hB1.size
      refine wp_region_noPanic ?_
      refine region_lastly (S := (fun w' => w'.cell? ⟨w.heap.size + 1, 0, none⟩ = some (.int .u64 (t.1.val : Nat)) ∧ w'.cell? ⟨w.heap.size + 1, 1, none⟩ = some (.int .u64 (t.2.val : Nat)) ∧ w'.cell? ⟨bx, 0, none⟩ = some (.int .u64 (B.1.val : Nat)) ∧ w'.cell? ⟨bx, 1, none⟩ = some (.int .u64 (B.2.val : Nat)))) [6] (by kernel_rfl) (by ((try dsimp only); ((refine cells_and (cells2 ?_) (cells2 ?_); (focus (repeat' (first | (with_reducible first | assumption | exact Two.own (by with_reducible assumption) | refine Two.set ?_ _ _ | refine Own2.set ?_ _ _ | refine Two.drew ?_ | refine Two.drewN ?_ _ | refine Own2.drew ?_ | refine Own2.drewN ?_ _ | (refine Two.new ?_; simp only [szs]; done) | (refine Own2.new ?_; simp only [szs]; done) | refine Two.alloc ?_ _ | refine Own2.alloc ?_ _ | refine Two.far ?_ ?_ _ _ | refine Own2.far ?_ ?_ _ _ | refine Two.via (by with_reducible assumption) ?_ ?_ | refine Own2.via (by with_reducible assumption) ?_ ?_) | omega | (simp only [szs]; omega)))); (focus (repeat' (first | (with_reducible first | assumption | exact Two.own (by with_reducible assumption) | refine Two.set ?_ _ _ | refine Own2.set ?_ _ _ | refine Two.drew ?_ | refine Two.drewN ?_ _ | refine Own2.drew ?_ | refine Own2.drewN ?_ _ | (refine Two.new ?_; simp only [szs]; done) | (refine Own2.new ?_; simp only [szs]; done) | refine Two.alloc ?_ _ | refine Own2.alloc ?_ _ | refine Two.far ?_ ?_ _ _ | refine Own2.far ?_ ?_ _ _ | refine Two.via (by with_reducible assumption) ?_ ?_ | refine Own2.via (by with_reducible assumption) ?_ ?_) | omega | (simp only [szs]; omega)))))))) (fun hHeld => ?_)
      refine anyZ_take (i := 0) (oi := ?oi_1) (v := ?v_1) ?hi_1 ?hz_1 ?hs_1 ?hf_1 ?hr_1 ?hQ_1 (Or.inl ⟨?hw_1, ?hy_1⟩) ?hS_1 ?hrest_1
      case hi_1 => (simp only [List.getElem?_toArray, List.getElem?_cons_succ, List.getElem?_cons_zero]; exact rfl)
      case hz_1 => kernel_rfl
      case hs_1 => kernel_rfl
      case hf_1 => kernel_rfl
      case hr_1 => kernel_rfl
      case hQ_1 => exact fun _ _ _ h => h
      case hw_1 => rfl
      case hS_1 => assumption
      case hy_1 => (intro w hSw; (try dsimp only at hSw); go_simp; try with_reducible rfl)
      try simp only [Act.put, List.setIfInBounds_toArray, List.set_cons_zero, List.set_cons_succ]
      refine anyZ_take (i := 1) (oi := ?oi_2) (v := ?v_2) ?hi_2 ?hz_2 ?hs_2 ?hf_2 ?hr_2 ?hQ_2 (Or.inl ⟨?hw_2, ?hy_2⟩) ?hS_2 ?hrest_2
      case hi_2 => (simp only [List.getElem?_toArray, List.getElem?_cons_succ, List.getElem?_cons_zero]; exact rfl)
      case hz_2 => kernel_rfl
      case hs_2 => kernel_rfl
      case hf_2 => kernel_rfl
      case hr_2 => kernel_rfl
      case hQ_2 => exact fun _ _ _ h => h
      case hw_2 => rfl
      case hS_2 => assumption
      case hy_2 => (intro w hSw; (try dsimp only at hSw); go_simp; try with_reducible rfl)
      try simp only [Act.put, List.setIfInBounds_toArray, List.set_cons_zero, List.set_cons_succ]
      refine anyZ_free (i := 2) (oi := ?oi_3) (v := ?v_3) ?hi_3 ?hs_3 ?hf_3 ?hr_3 ?hQ_3 (Or.inl ⟨?hw_3, ?hy_3⟩) ?hrest_3
      case hi_3 => (simp only [List.getElem?_toArray, List.getElem?_cons_succ, List.getElem?_cons_zero]; exact rfl)
      case hs_3 => kernel_rfl
      case hf_3 => kernel_rfl
      case hr_3 => kernel_rfl
      case hQ_3 => exact fun _ _ _ h => h
      case hw_3 => rfl
      case hy_3 => (intro w _; go_simp; try with_reducible rfl)
      try simp only [Act.put, List.setIfInBounds_toArray, List.set_cons_zero, List.set_cons_succ]
      refine anyZ_ready (rs := [3]) (by kernel_rfl) (by simp) ?_
      refine (AllZ.cons (o := ?o_4) ?ho_4 (fun K hK => ?st_4) AllZ.nil)
      case ho_4 => (simp only [List.getElem?_toArray, List.getElem?_cons_succ, List.getElem?_cons_zero]; exact rfl)
      case st_4 =>
        go_simp
        (first | (go_at_call 42; first | (with_reducible refine (cr _).mono ?_; rintro e w' ⟨rfl, rfl⟩)))
        refine hK.out _ _ (by ((try dsimp only); ((refine cells_and (cells2 ?_) (cells2 ?_); (focus (repeat' (first | (with_reducible first | assumption | exact Two.own (by with_reducible assumption) | refine Two.set ?_ _ _ | refine Own2.set ?_ _ _ | refine Two.drew ?_ | refine Two.drewN ?_ _ | refine Own2.drew ?_ | refine Own2.drewN ?_ _ | (refine Two.new ?_; simp only [szs]; done) | (refine Own2.new ?_; simp only [szs]; done) | refine Two.alloc ?_ _ | refine Own2.alloc ?_ _ | refine Two.far ?_ ?_ _ _ | refine Own2.far ?_ ?_ _ _ | refine Two.via (by with_reducible assumption) ?_ ?_ | refine Own2.via (by with_reducible assumption) ?_ ?_) | omega | (simp only [szs]; omega)))); (focus (repeat' (first | (with_reducible first | assumption | exact Two.own (by with_reducible assumption) | refine Two.set ?_ _ _ | refine Own2.set ?_ _ _ | refine Two.drew ?_ | refine Two.drewN ?_ _ | refine Own2.drew ?_ | refine Own2.drewN ?_ _ | (refine Two.new ?_; simp only [szs]; done) | (refine Own2.new ?_; simp only [szs]; done) | refine Two.alloc ?_ _ | refine Own2.alloc ?_ _ | refine Two.far ?_ ?_ _ _ | refine Own2.far ?_ ?_ _ _ | refine Two.via (by with_reducible assumption) ?_ ?_ | refine Own2.via (by with_reducible assumption) ?_ ?_) | omega | (simp only [szs]; omega)))))))) (fun hHeld => ?_)
        clear hK K
        try simp only [Act.put, List.setIfInBounds_toArray, List.set_cons_zero, List.set_cons_succ]
        refine anyZ_ready (rs := [4]) (by kernel_rfl) (by simp) ?_
        refine (AllZ.cons (o := ?o_5) ?ho_5 (fun K hK => ?st_5) AllZ.nil)
        case ho_5 => (simp only [List.getElem?_toArray, List.getElem?_cons_succ, List.getElem?_cons_zero]; exact rfl)
        case st_5 =>
          go_simp
          (first | (go_at_call 41; first | (with_reducible refine (cm _).mono ?_; rintro e w_cm ⟨rfl, b_cm⟩; have z_cm := b_cm.size; (try simp only [szs] at z_cm); (try (have q_cm_0 := own2 b_cm (w.heap.size) (by first | omega | (simp only [szs]; omega)))); (try (have q_cm_1 := own2 b_cm (w.heap.size + 1) (by first | omega | (simp only [szs]; omega)))); (try (have q_cm_2 := own2 b_cm (bx) (by first | omega | (simp only [szs]; omega)))))))
          refine hK.out _ _ (by ((try dsimp only); ((refine cells_and (cells2 ?_) (cells2 ?_); (focus (repeat' (first | (with_reducible first | assumption | exact Two.own (by with_reducible assumption) | refine Two.set ?_ _ _ | refine Own2.set ?_ _ _ | refine Two.drew ?_ | refine Two.drewN ?_ _ | refine Own2.drew ?_ | refine Own2.drewN ?_ _ | (refine Two.new ?_; simp only [szs]; done) | (refine Own2.new ?_; simp only [szs]; done) | refine Two.alloc ?_ _ | refine Own2.alloc ?_ _ | refine Two.far ?_ ?_ _ _ | refine Own2.far ?_ ?_ _ _ | refine Two.via (by with_reducible assumption) ?_ ?_ | refine Own2.via (by with_reducible assumption) ?_ ?_) | omega | (simp only [szs]; omega)))); (focus (repeat' (first | (with_reducible first | assumption | exact Two.own (by with_reducible assumption) | refine Two.set ?_ _ _ | refine Own2.set ?_ _ _ | refine Two.drew ?_ | refine Two.drewN ?_ _ | refine Own2.drew ?_ | refine Own2.drewN ?_ _ | (refine Two.new ?_; simp only [szs]; done) | (refine Own2.new ?_; simp only [szs]; done) | refine Two.alloc ?_ _ | refine Own2.alloc ?_ _ | refine Two.far ?_ ?_ _ _ | refine Own2.far ?_ ?_ _ _ | refine Two.via (by with_reducible assumption) ?_ ?_ | refine Own2.via (by with_reducible assumption) ?_ ?_) | omega | (simp only [szs]; omega)))))))) (fun hHeld => ?_)
          clear hK K
          try simp only [Act.put, List.setIfInBounds_toArray, List.set_cons_zero, List.set_cons_succ]
          refine anyZ_ready (rs := [5]) (by kernel_rfl) (by simp) ?_
          refine (AllZ.cons (o := ?o_6) ?ho_6 (fun K hK => ?st_6) AllZ.nil)
          case ho_6 => (simp only [List.getElem?_toArray, List.getElem?_cons_succ, List.getElem?_cons_zero]; exact rfl)
          case st_6 =>
            go_simp
            (first | (go_at_call 16; first | (with_reducible refine (ca _).mono ?_; rintro e w_ca ⟨rfl, b_ca⟩; have z_ca := b_ca.size; (try simp only [szs] at z_ca); (try (have q_ca_0 := own2 b_ca (w.heap.size) (by first | omega | (simp only [szs]; omega)))); (try (have q_ca_1 := own2 b_ca (w.heap.size + 1) (by first | omega | (simp only [szs]; omega)))); (try (have q_ca_2 := own2 b_ca (bx) (by first | omega | (simp only [szs]; omega)))))))
            refine hK.out _ _ (by ((try dsimp only); ((refine cells_and (cells2 ?_) (cells2 ?_); (focus (repeat' (first | (with_reducible first | assumption | exact Two.own (by with_reducible assumption) | refine Two.set ?_ _ _ | refine Own2.set ?_ _ _ | refine Two.drew ?_ | refine Two.drewN ?_ _ | refine Own2.drew ?_ | refine Own2.drewN ?_ _ | (refine Two.new ?_; simp only [szs]; done) | (refine Own2.new ?_; simp only [szs]; done) | refine Two.alloc ?_ _ | refine Own2.alloc ?_ _ | refine Two.far ?_ ?_ _ _ | refine Own2.far ?_ ?_ _ _ | refine Two.via (by with_reducible assumption) ?_ ?_ | refine Own2.via (by with_reducible assumption) ?_ ?_) | omega | (simp only [szs]; omega)))); (focus (repeat' (first | (with_reducible first | assumption | exact Two.own (by with_reducible assumption) | refine Two.set ?_ _ _ | refine Own2.set ?_ _ _ | refine Two.drew ?_ | refine Two.drewN ?_ _ | refine Own2.drew ?_ | refine Own2.drewN ?_ _ | (refine Two.new ?_; simp only [szs]; done) | (refine Own2.new ?_; simp only [szs]; done) | refine Two.alloc ?_ _ | refine Own2.alloc ?_ _ | refine Two.far ?_ ?_ _ _ | refine Own2.far ?_ ?_ _ _ | refine Two.via (by with_reducible assumption) ?_ ?_ | refine Own2.via (by with_reducible assumption) ?_ ?_) | omega | (simp only [szs]; omega)))))))) (fun hHeld => ?_)
            clear hK K
            try simp only [Act.put, List.setIfInBounds_toArray, List.set_cons_zero, List.set_cons_succ]
            refine anyZ_ready (rs := [6]) (by kernel_rfl) (by simp) ?_
            refine (AllZ.last (o := ?o_7) ?ho_7 (by rfl) (fun K hK => ?st_7) AllZ.nil)
            case ho_7 => (simp only [List.getElem?_toArray, List.getElem?_cons_succ, List.getElem?_cons_zero]; exact rfl)
            case st_7 =>
              go_simp
              refine hK.out _ _ ?_
              clear hK K
              try simp only [Act.put, List.setIfInBounds_toArray, List.set_cons_zero, List.set_cons_succ]
              refine anyZ_done (by kernel_rfl) ?_ _
              refine NoPanic.normal ?_
              go_wp2
              go_roundw
              case rel => exact ⟨k + 1, t', by omega, by go_num, by (repeat' (first | (with_reducible first | assumption | exact Two.own (by with_reducible assumption) | refine Two.set ?_ _ _ | refine Own2.set ?_ _ _ | refine Two.drew ?_ | refine Two.drewN ?_ _ | refine Own2.drew ?_ | refine Own2.drewN ?_ _ | (refine Two.new ?_; simp only [szs]; done) | (refine Own2.new ?_; simp only [szs]; done) | refine Two.alloc ?_ _ | refine Own2.alloc ?_ _ | refine Two.far ?_ ?_ _ _ | refine Own2.far ?_ ?_ _ _ | refine Two.via (by with_reducible assumption) ?_ ?_ | refine Own2.via (by with_reducible assumption) ?_ ?_) | omega | (simp only [szs]; omega))), by (repeat' (first | (with_reducible first | assumption | exact Two.own (by with_reducible assumption) | refine Two.set ?_ _ _ | refine Own2.set ?_ _ _ | refine Two.drew ?_ | refine Two.drewN ?_ _ | refine Own2.drew ?_ | refine Own2.drewN ?_ _ | (refine Two.new ?_; simp only [szs]; done) | (refine Own2.new ?_; simp only [szs]; done) | refine Two.alloc ?_ _ | refine Own2.alloc ?_ _ | refine Two.far ?_ ?_ _ _ | refine Own2.far ?_ ?_ _ _ | refine Two.via (by with_reducible assumption) ?_ ?_ | refine Own2.via (by with_reducible assumption) ?_ ?_) | omega | (simp only [szs]; omega))), by (repeat' (first | (with_reducible first | exact Below.refl _ _ | assumption | refine Below.alloc ?_ ?_ _ | refine Below.drew ?_ | refine below_drewN ?_ _ | refine Below.setCell ?_ ?_ _ | refine below_via (by with_reducible assumption) ?_ ?_) | omega | (simp only [szs]; omega) | (simp only [szs] at *; omega))), hI'⟩
              case measure => simp [intOf]; omega
    · have hlk' : ¬ (k : Int) < (m : Int) := by omega
      obtain rfl : k = m := by omega
      obtain rfl : T = t := hF.out.symm.trans hI.out
      go_wp2
      exact bodyPost_ret (v := .tuple #[.agg #[.int .u64 (T.1.val : Nat), .int .u64 (T.2.val : Nat)], .nilIface]) (by simp [results, Tryd.results23, go_sem, *]) rfl ⟨rfl, by (repeat' (first | (with_reducible first | exact Below.refl _ _ | assumption | refine Below.alloc ?_ ?_ _ | refine Below.drew ?_ | refine below_drewN ?_ _ | refine Below.setCell ?_ ?_ _ | refine below_via (by with_reducible assumption) ?_ ?_) | omega | (simp only [szs]; omega) | (simp only [szs] at *; omega)))⟩

/-- The commitment to n values by a blind. -/
def comP (x : Nat) (v : Nat → Nat) (n : Nat) : Ob.Ep := Ob.gcom baseP (rests (joinW (fun _ => x) 1 v)) (1 + n)
theorem comP_on (x : Nat) (v : Nat → Nat) (n : Nat) : Ob.onG (comP x v n) := Ob.gcom_on baseP_on _ _
set_option maxHeartbeats 2000000 in
theorem pcommitW (a : Option Addr) (n c : Nat) (v : Nat → Nat) (hv : ∀ i, v i < 18446744073709551616) (hn : n ≤ 5) (x : Nat) (hx : x < 18446744073709551616) (w : World) (hT : TabOk w) (hTs : Tabs w) (hs : SrcW w.heap.size w a n v) :
    Calls Tryd.prog 12 #[.slice a n c, .int .u64 x] w fun e w' => e = .returned (.tuple #[edV (comP x v n), .nilIface]) ∧ Below w.heap.size w w' := by
  have hj : ∀ i, joinW (fun _ => x) 1 v i < 18446744073709551616 := fun i => by unfold joinW; split; exact hx; exact hv _
  have c0 := fun (g cap : Nat) (W : World) (h : Below w.heap.size w W) (hz : Wds W g 0 (1 + n) (joinW (fun _ => x) 1 v)) => ptogetherW g 0 (1 + n) cap (joinW (fun _ => x) 1 v) hj (by omega) W (hT.below h hT.lt) (hTs.below h hTs.lt) hz
  change ∀ (g cap : Nat) (W : World), Below w.heap.size w W → Wds W g 0 (1 + n) (joinW (fun _ => x) 1 v) → Calls Tryd.prog 23 #[.func (.func 9) #[] #[], .slice (some ⟨g, 0, none⟩) (1 + n) cap] W fun e w' => e = .returned (.tuple #[edV (comP x v n), .nilIface]) ∧ Below W.heap.size W w' at c0
  generalize comP x v n = T at *
  unfold edV at c0 ⊢
  have hlen : ¬ (16 : Int) < (n : Int) := by omega
  have hs' : Hid (SrcW w.heap.size w a n v) := hs
  clear hs hT hTs hj hv
  go_enter Tryd.func12, Tryd.ntmps12
  go_wp2_with (first | (at_builtin; refine wpList_joinW rfl _ _ rfl (w.heap.size + 1) 1 (fun _ => x) (Wds.one (by simp)) w.heap.size a n c v (hs'.out.below (by (repeat' (first | (with_reducible first | exact Below.refl _ _ | assumption | refine Below.alloc ?_ ?_ _ | refine Below.drew ?_ | refine below_drewN ?_ _ | refine Below.setCell ?_ ?_ _ | refine below_via (by with_reducible assumption) ?_ ?_) | omega | (simp only [szs]; omega) | (simp only [szs] at *; omega))))) (by decide) (by omega) rfl rfl ?_; intro g1 cap1 w1 hc1 hz1 hg1 hB1; have hBw1 : Below w.heap.size w w1 := (by (repeat' (first | (with_reducible first | exact Below.refl _ _ | assumption | refine Below.alloc ?_ ?_ _ | refine Below.drew ?_ | refine below_drewN ?_ _ | refine Below.setCell ?_ ?_ _ | refine below_via (by with_reducible assumption) ?_ ?_) | omega | (simp only [szs]; omega) | (simp only [szs] at *; omega)))); have z1 := hB1.size; (try simp only [szs] at z1); have q1 := own2 hB1 w.heap.size (by simp only [szs]; omega)) | (go_at_call 23; (with_reducible refine (c0 _ _ _ hBw1 hz1).mono ?_); rintro e w2 ⟨rfl, hB2⟩; have z2 := hB2.size; have q2 := own2 hB2 w.heap.size (by omega)))
  exact bodyPost_ret (v := .tuple #[.agg #[.int .u64 (T.1.val : Nat), .int .u64 (T.2.val : Nat)], .nilIface]) (by simp [results, Tryd.results12, go_sem, *]) rfl ⟨rfl, by (repeat' (first | (with_reducible first | exact Below.refl _ _ | assumption | refine Below.alloc ?_ ?_ _ | refine Below.drew ?_ | refine below_drewN ?_ _ | refine Below.setCell ?_ ?_ _ | refine below_via (by with_reducible assumption) ?_ ?_) | omega | (simp only [szs]; omega) | (simp only [szs] at *; omega)))⟩
set_option maxHeartbeats 1000000 in
theorem pcommit_long (a : Option Addr) (n c : Nat) (hn : 16 < n) (x : Int) (w : World) :
    Calls Tryd.prog 12 #[.slice a n c, .int .u64 x] w fun e w' => e = .returned (.tuple #[.agg #[.int .u64 0, .int .u64 0], .iface 33 (.int .i64 5)]) ∧ Below w.heap.size w w' := by
  have hlen : (16 : Int) < (n : Int) := by omega
  clear hn
  go_enter Tryd.func12, Tryd.ntmps12
  go_wp2
  exact bodyPost_ret (v := .tuple #[.agg #[.int .u64 0, .int .u64 0], .iface 33 (.int .i64 5)]) (by simp [results, Tryd.results12, go_sem, *]) rfl ⟨rfl, by (repeat' (first | (with_reducible first | exact Below.refl _ _ | assumption | refine Below.alloc ?_ ?_ _ | refine Below.drew ?_ | refine below_drewN ?_ _ | refine Below.setCell ?_ ?_ _ | refine below_via (by with_reducible assumption) ?_ ?_) | omega | (simp only [szs]; omega) | (simp only [szs] at *; omega)))⟩

set_option maxHeartbeats 2000000 in
theorem popens_core (p q : Int) (a : Option Addr) (n c : Nat) (x px py : Int) (s : Bool) (w : World)
   (c0 : Calls Tryd.prog 12 #[.slice a n c, .int .u64 x] (w.alloc (.cells #[.int .u64 p, .int .u64 q] 25)) fun e w' => e = .returned (.tuple #[.agg #[.int .u64 px, .int .u64 py], .nilIface]) ∧ Below (w.heap.size + 1) (w.alloc (.cells #[.int .u64 p, .int .u64 q] 25)) w')
   (he : ∀ w, (Op.equalIn 10000 25 (.agg #[.int .u64 px, .int .u64 py]) (.agg #[.int .u64 p, .int .u64 q])).run Tryd.prog w = .ok s w) :
    Calls Tryd.prog 13 #[.agg #[.int .u64 p, .int .u64 q], .slice a n c, .int .u64 x] w fun e w' => e = .returned (.bool s) ∧ Below w.heap.size w w' := by
  go_enter Tryd.func13, Tryd.ntmps13
  go_wp2_with (go_at_call 12; (with_reducible refine c0.mono ?_); rintro e w1 ⟨rfl, b1⟩; have z1 := b1.size; (try simp only [szs] at z1); have q1 := own2 b1 w.heap.size (by omega) (by simp only [szs]; omega))
  go_ret -- @HERE@
  exact ⟨rfl, by (repeat' (first | (with_reducible first | exact Below.refl _ _ | assumption | refine Below.alloc ?_ ?_ _ | refine Below.drew ?_ | refine below_drewN ?_ _ | refine Below.setCell ?_ ?_ _ | refine below_via (by with_reducible assumption) ?_ ?_) | omega | (simp only [szs]; omega) | (simp only [szs] at *; omega)))⟩
set_option maxHeartbeats 2000000 in
theorem popens_long (p q : Int) (a : Option Addr) (n c : Nat) (hn : 16 < n) (x : Int) (w : World) :
    Calls Tryd.prog 13 #[.agg #[.int .u64 p, .int .u64 q], .slice a n c, .int .u64 x] w fun e w' => e = .returned (.bool false) ∧ Below w.heap.size w w' := by
  have c0 := fun w => pcommit_long a n c hn x w
  go_enter Tryd.func13, Tryd.ntmps13
  go_wp2_with (first | (go_at_call 12; first | (with_reducible refine (c0 _).mono ?_; rintro e w_c0 ⟨rfl, b_c0⟩; have z_c0 := b_c0.size; (try simp only [szs] at z_c0); (try (have q_c0_0 := own2 b_c0 (w.heap.size) (by first | omega | (simp only [szs]; omega)))))))
  go_ret
  exact ⟨rfl, by (repeat' (first | (with_reducible first | exact Below.refl _ _ | assumption | refine Below.alloc ?_ ?_ _ | refine Below.drew ?_ | refine below_drewN ?_ _ | refine Below.setCell ?_ ?_ _ | refine below_via (by with_reducible assumption) ?_ ?_) | omega | (simp only [szs]; omega) | (simp only [szs] at *; omega)))⟩
/-- Is a point told by these fields? -/
def isP (u : Ob.Ep) (p q : Int) : Bool := (((u.1.val : Nat) : Int) == p) && (((u.2.val : Nat) : Int) == q)
theorem eq_isP (w : World) (u : Ob.Ep) (p q : Int) : (Op.equalIn 10000 25 (.agg #[.int .u64 (u.1.val : Nat), .int .u64 (u.2.val : Nat)]) (.agg #[.int .u64 p, .int .u64 q])).run Tryd.prog w = .ok (isP u p q) w := by rw [equal_Ed]; rfl
theorem popensW (p q : Int) (a : Option Addr) (n c : Nat) (v : Nat → Nat) (hv : ∀ i, v i < 18446744073709551616) (hn : n ≤ 5) (x : Nat) (hx : x < 18446744073709551616) (w : World) (hT : TabOk w) (hTs : Tabs w) (hs : SrcW w.heap.size w a n v) :
    Calls Tryd.prog 13 #[.agg #[.int .u64 p, .int .u64 q], .slice a n c, .int .u64 x] w fun e w' => e = .returned (.bool (isP (comP x v n) p q)) ∧ Below w.heap.size w w' := by
  have hb : Below w.heap.size w (w.alloc (.cells #[.int .u64 p, .int .u64 q] 25)) := (Below.refl w.heap.size w).alloc (Nat.le_refl _) _
  have c0 := pcommitW a n c v hv hn x hx (w.alloc (.cells #[.int .u64 p, .int .u64 q] 25)) (hT.below hb hT.lt) (hTs.below hb hTs.lt) ((hs.below hb).mono (by simp))
  rw [World.size_alloc] at c0
  exact popens_core p q a n c x _ _ _ w c0 fun w => eq_isP w _ p q
end Go.Proofs.YtkekomiaiaacaaaDoor

namespace Go.Proofs.YtkekomiaiaacaaaDoor
open Go.RowKit Go.Proofs
set_option linter.unusedVariables false
set_option linter.unusedSimpArgs false

theorem codeInfo : ∃ i, Tryd.prog.info? 33 = some i ∧ i.comparable = true := by
  have h : (Tryd.prog.info? 33).map (·.comparable) = some true := by kernel_rfl
  cases hi : Tryd.prog.info? 33 with
  | none => rw [hi] at h; cases h
  | some i => rw [hi] at h; exact ⟨i, rfl, Option.some.inj h⟩
/-- Two errors that are codes are compared as their numbers. -/
theorem equalIn_code (d : Nat) (w : World) (a b : Int) : (Op.equalIn (d + 2) 27 (.iface 33 (.int .i64 a)) (.iface 33 (.int .i64 b))).run Tryd.prog w = .ok (a == b) w := by
  obtain ⟨i, hi, hc⟩ := codeInfo
  simp [Op.equalIn, run_underlying Tryd.underlying27, run_underlying Tryd.underlying33, typeInfo, hi, hc]
theorem eql_code (w : World) (a b : Int) : (binOp .eql 27 (.iface 33 (.int .i64 a)) (.iface 33 (.int .i64 b))).run Tryd.prog w = .ok (.bool (a == b)) w := by
  have h := equalIn_code (Op.maxDepth - 2) w a b
  have e : Op.maxDepth - 2 + 2 = Op.maxDepth := by decide +kernel
  rw [e] at h
  simp only [binOp]
  simp [Op.equal, h]
end Go.Proofs.YtkekomiaiaacaaaDoor

namespace Go.Proofs.YtkekomiaiaacaaaDoor
open Go.RowKit Go.Proofs
set_option linter.unusedVariables false
set_option linter.unusedSimpArgs false
attribute [local go_sem ↓] Go.wp_at_zero Go.wp_at_succ
attribute [local irreducible] Ob.gmul Ob.gadd

theorem wds_lit1 (w : World) (t : TypeId) : Wds (w.alloc (.cells #[.int .u64 1] t)) w.heap.size 0 1 (fun _ => 1) := Wds.one (n := 1) rfl
set_option maxHeartbeats 4000000 in
theorem up8_core (bx by_ : Int) (w : World)
   (c0 : ∀ W, Below w.heap.size w W → Calls Tryd.prog 12 #[.slice none 0 0, .int .u64 0] W fun e w' => e = .returned (.tuple #[.agg #[.int .u64 0, .int .u64 1], .nilIface]) ∧ Below W.heap.size W w')
   (c1 : ∀ W g, Below w.heap.size w W → Wds W g 0 1 (fun _ => 1) → Calls Tryd.prog 12 #[.slice (some ⟨g, 0, none⟩) 1 1, .int .u64 0] W fun e w' => e = .returned (.tuple #[.agg #[.int .u64 bx, .int .u64 by_], .nilIface]) ∧ Below W.heap.size W w')
   (c2 : ∀ W g, Below w.heap.size w W → Wds W g 0 1 (fun _ => 1) → Calls Tryd.prog 13 #[.agg #[.int .u64 bx, .int .u64 by_], .slice (some ⟨g, 0, none⟩) 1 1, .int .u64 0] W fun e w' => e = .returned (.bool true) ∧ Below W.heap.size W w')
   (he : ∀ w, (Op.equalIn 10000 25 (.agg #[.int .u64 bx, .int .u64 by_]) (.agg #[.int .u64 0, .int .u64 1])).run Tryd.prog w = .ok false w)
   (he2 : ∀ w, (Op.equalIn 10000 25 (.agg #[.int .u64 0, .int .u64 1]) (.agg #[.int .u64 0, .int .u64 1])).run Tryd.prog w = .ok true w) :
    Calls Tryd.prog 8 #[] w fun e w' => e = .returned (.bool true) ∧ Below w.heap.size w w' := by
  go_enter Tryd.func8, Tryd.ntmps8
  go_upto_region 2 with (go_at_call 12; (with_reducible refine (c0 _ (Below.refl _ _)).mono ?_); rintro e w1 ⟨rfl, b1⟩)
  have z1 := b1.size
  have t1 : Two (w1.alloc (.cells #[.int .u64 0, .int .u64 1] 25)) w1.heap.size (.int .u64 0) (.int .u64 1) := by (repeat' (first | (with_reducible first | assumption | exact Two.own (by with_reducible assumption) | refine Two.set ?_ _ _ | refine Own2.set ?_ _ _ | refine Two.drew ?_ | refine Two.drewN ?_ _ | refine Own2.drew ?_ | refine Own2.drewN ?_ _ | (refine Two.new ?_; simp only [szs]; done) | (refine Own2.new ?_; simp only [szs]; done) | refine Two.alloc ?_ _ | refine Own2.alloc ?_ _ | refine Two.far ?_ ?_ _ _ | refine Own2.far ?_ ?_ _ _ | refine Two.via (by with_reducible assumption) ?_ ?_ | refine Own2.via (by with_reducible assumption) ?_ ?_) | omega | (simp only [szs]; omega)))
  have hB1 : Below w.heap.size w (w1.alloc (.cells #[.int .u64 0, .int .u64 1] 25)) := by (repeat' (first | (with_reducible first | exact Below.refl _ _ | assumption | refine Below.alloc ?_ ?_ _ | refine Below.drew ?_ | refine below_drewN ?_ _ | refine Below.setCell ?_ ?_ _ | refine below_via (by with_reducible assumption) ?_ ?_) | omega | (simp only [szs]; omega) | (simp only [szs] at *; omega)))
  generalize (w1.alloc (.cells #[.int .u64 0, .int .u64 1] 25)) = W at *
  generalize w1.heap.size = ba at *
  clear b1 z1 c0
  have hBn := hB1.size
  go_upto_region 3 with (go_at_call 12; (with_reducible refine (c1 _ _ (by (repeat' (first | (with_reducible first | exact Below.refl _ _ | assumption | refine Below.alloc ?_ ?_ _ | refine Below.drew ?_ | refine below_drewN ?_ _ | refine Below.setCell ?_ ?_ _ | refine below_via (by with_reducible assumption) ?_ ?_) | omega | (simp only [szs]; omega) | (simp only [szs] at *; omega)))) (wds_lit1 _ _)).mono ?_); rintro e w2 ⟨rfl, b2⟩)
  have z2 := b2.size
  have lW := t1.lt
  simp only [szs] at z2
  have t2 : Two (w2.alloc (.cells #[.int .u64 bx, .int .u64 by_] 25)) ba (.int .u64 0) (.int .u64 1) := by (repeat' (first | (with_reducible first | assumption | exact Two.own (by with_reducible assumption) | refine Two.set ?_ _ _ | refine Own2.set ?_ _ _ | refine Two.drew ?_ | refine Two.drewN ?_ _ | refine Own2.drew ?_ | refine Own2.drewN ?_ _ | (refine Two.new ?_; simp only [szs]; done) | (refine Own2.new ?_; simp only [szs]; done) | refine Two.alloc ?_ _ | refine Own2.alloc ?_ _ | refine Two.far ?_ ?_ _ _ | refine Own2.far ?_ ?_ _ _ | refine Two.via (by with_reducible assumption) ?_ ?_ | refine Own2.via (by with_reducible assumption) ?_ ?_) | omega | (simp only [szs]; omega)))
  have t3 : Two (w2.alloc (.cells #[.int .u64 bx, .int .u64 by_] 25)) w2.heap.size (.int .u64 bx) (.int .u64 by_) := by (repeat' (first | (with_reducible first | assumption | exact Two.own (by with_reducible assumption) | refine Two.set ?_ _ _ | refine Own2.set ?_ _ _ | refine Two.drew ?_ | refine Two.drewN ?_ _ | refine Own2.drew ?_ | refine Own2.drewN ?_ _ | (refine Two.new ?_; simp only [szs]; done) | (refine Own2.new ?_; simp only [szs]; done) | refine Two.alloc ?_ _ | refine Own2.alloc ?_ _ | refine Two.far ?_ ?_ _ _ | refine Own2.far ?_ ?_ _ _ | refine Two.via (by with_reducible assumption) ?_ ?_ | refine Own2.via (by with_reducible assumption) ?_ ?_) | omega | (simp only [szs]; omega)))
  have hB2 : Below w.heap.size w (w2.alloc (.cells #[.int .u64 bx, .int .u64 by_] 25)) := by (repeat' (first | (with_reducible first | exact Below.refl _ _ | assumption | refine Below.alloc ?_ ?_ _ | refine Below.drew ?_ | refine below_drewN ?_ _ | refine Below.setCell ?_ ?_ _ | refine below_via (by with_reducible assumption) ?_ ?_) | omega | (simp only [szs]; omega) | (simp only [szs] at *; omega)))
  have n1 : ba ≠ w2.heap.size := by omega
  have n2 : w2.heap.size ≠ ba := by omega
  generalize (w2.alloc (.cells #[.int .u64 bx, .int .u64 by_] 25)) = V at *
  generalize w2.heap.size = bb at *
  clear b2 z2 c1 t1 hB1 lW hBn
  have ⟨d1, d2, d3, d4, d5⟩ := t2
  have ⟨e1, e2, e3, e4, e5⟩ := t3
  have zB := hB2.size
  go_wp2_with (go_at_call 13; (with_reducible refine (c2 _ _ (by (repeat' (first | (with_reducible first | exact Below.refl _ _ | assumption | refine Below.alloc ?_ ?_ _ | refine Below.drew ?_ | refine below_drewN ?_ _ | refine Below.setCell ?_ ?_ _ | refine below_via (by with_reducible assumption) ?_ ?_) | omega | (simp only [szs]; omega) | (simp only [szs] at *; omega)))) (wds_lit1 _ _)).mono ?_); rintro e w3 ⟨rfl, b3⟩; have z3 := b3.size; (try simp only [szs] at z3))
  go_ret -- @HERE@
  exact ⟨rfl, by (repeat' (first | (with_reducible first | exact Below.refl _ _ | assumption | refine Below.alloc ?_ ?_ _ | refine Below.drew ?_ | refine below_drewN ?_ _ | refine Below.setCell ?_ ?_ _ | refine below_via (by with_reducible assumption) ?_ ?_) | omega | (simp only [szs]; omega) | (simp only [szs] at *; omega)))⟩

theorem gmul_none (u : Ob.Ep) : Ob.gmul u 0 = Ob.gzero := by rw [Ob.gmul]
theorem com_none (v : Nat → Nat) : comP 0 v 0 = Ob.gzero := by
  show Ob.gadd Ob.gzero (Ob.gmul (baseP 0) (rests (joinW (fun _ => 0) 1 v) 0)) = Ob.gzero
  rw [show rests (joinW (fun _ => 0) 1 v) 0 = 0 from rfl, gmul_none, Ob.gadd_zero Ob.onG_zero]
theorem com_first : comP 0 (fun _ => 1) 1 = baseP 1 := by
  show Ob.gadd (Ob.gadd Ob.gzero (Ob.gmul (baseP 0) (rests (joinW (fun _ => 0) 1 (fun _ => 1)) 0))) (Ob.gmul (baseP 1) (rests (joinW (fun _ => 0) 1 (fun _ => 1)) 1)) = baseP 1
  rw [show rests (joinW (fun _ => 0) 1 (fun _ => 1)) 0 = 0 from rfl, show rests (joinW (fun _ => 0) 1 (fun _ => 1)) 1 = 1 from rfl, gmul_none, Ob.gadd_zero Ob.onG_zero, Ob.gmul_one (baseP_on 1), Ob.zero_gadd (baseP_on 1)]
theorem isP_zero (u : Ob.Ep) : isP u 0 1 = isZ u := isZ_eq u
theorem isP_self (u : Ob.Ep) : isP u (u.1.val : Nat) (u.2.val : Nat) = true := by unfold isP; simp
theorem up8W (w : World) (hT : TabOk w) (hTs : Tabs w) : Calls Tryd.prog 8 #[] w fun e w' => e = .returned (.bool true) ∧ Below w.heap.size w w' := by
  have c0 := fun (W : World) (h : Below w.heap.size w W) => pcommitW none 0 0 (fun _ => 0) (fun _ => by show 0 < _; decide) (by decide) 0 (by decide) W (hT.below h hT.lt) (hTs.below h hTs.lt) (SrcW.nil _ _ _ _)
  rw [com_none] at c0
  have c1 := fun (W : World) (g : Nat) (h : Below w.heap.size w W) (hz : Wds W g 0 1 (fun _ => 1)) => pcommitW (some ⟨g, 0, none⟩) 1 1 (fun _ => 1) (fun _ => by show 1 < _; decide) (by decide) 0 (by decide) W (hT.below h hT.lt) (hTs.below h hTs.lt) (SrcW.of hz)
  rw [com_first] at c1
  have c2 := fun (W : World) (g : Nat) (h : Below w.heap.size w W) (hz : Wds W g 0 1 (fun _ => 1)) => popensW ((baseP 1).1.val : Nat) ((baseP 1).2.val : Nat) (some ⟨g, 0, none⟩) 1 1 (fun _ => 1) (fun _ => by show 1 < _; decide) (by decide) 0 (by decide) W (hT.below h hT.lt) (hTs.below h hTs.lt) (SrcW.of hz)
  rw [com_first, isP_self] at c2
  refine up8_core _ _ w c0 c1 c2 (fun w => ?_) (fun w => by rw [equal_Ed]; rfl)
  rw [eq_isP, isP_zero]
  have : isZ (baseP 1) = false := decide_eq_false (baseP_ne (by decide))
  rw [this]
end Go.Proofs.YtkekomiaiaacaaaDoor

namespace Go.Proofs.YtkekomiaiaacaaaDoor
open Go.ChangeShapes Go.WideShapes Go.ChangeAt Go.RowKit
set_option linter.unusedVariables false
set_option linter.unusedSimpArgs false

set_option maxRecDepth 100000 in
/-- A point that came in. -/
theorem open_Ed {H : Type} {enc : TypeId × Value → H} {W : World} {r : Reach} {b0 : Nat} {v : Value} {d : DataW H} {p : List MemPlace} (hv : Value.okWide Tryd.prog W r b0 25 v)
    (h : DataW.Trod enc Tryd.prog W 0 (fun _ => true) true 25 v d p) : ∃ (x y : Int), v = .agg #[.int .u64 x, .int .u64 y] ∧ (Lit.int .u64 x).wf = true ∧ (Lit.int .u64 y).wf = true := by
  obtain ⟨v1, v2, y1, y2, n, rfl, _, _, h1, h2⟩ := Go.Joins.open_agg2 Tryd.underlying25 (by kernel_rfl) (by kernel_rfl) hv h
  obtain ⟨a, e1, _, wa⟩ := DataW.trod_int Tryd.underlying22 h1
  obtain ⟨b, e2, _, wb⟩ := DataW.trod_int Tryd.underlying22 h2
  simp at e1 e2
  subst e1 e2
  exact ⟨a, b, rfl, wa, wb⟩
end Go.Proofs.YtkekomiaiaacaaaDoor

namespace Go.Proofs.YtkekomiaiaacaaaDoor
open Go.ChangeShapes Go.WideShapes Go.ChangeAt Go.RowKit
set_option linter.unusedVariables false
set_option linter.unusedSimpArgs false

def tabNums : List Int := [0, 1, 56, 2, 57, 49, 28, 3, 61, 58, 42, 50, 38, 29, 17, 4, 62, 47, 59, 36, 45, 43, 51, 22, 53, 39, 33, 30, 24, 18, 12, 5, 63, 55, 48, 27, 60, 41, 37, 16, 46, 35, 44, 21, 52, 32, 23, 11, 54, 26, 40, 15, 34, 20, 31, 10, 25, 14, 19, 9, 13, 8, 7, 6]
def firstI : List Int := Ob.firstT.map Int.ofNat
def rowsI : List (List Int) := Ob.sigT.map fun l => l.map Int.ofNat
def plcI : List (List Int) := Ob.plcT.map fun l => l.map Int.ofNat
def laidTab : List (String × DataW Unit) := Rows.pedersenBasesRow.laid
theorem laidTab_eq : laidTab = [("math/bits.deBruijn64tab", Lib.tabData .u8 tabNums), ("obol/blake.beginning", Lib.tabData .u32 firstI), ("obol/blake.rows", .agg (rowsI.map (Lib.tabData .u8))), ("obol/blake.places", .agg (plcI.map (Lib.tabData .u8)))] := rfl
theorem gTab : Tryd.prog.globalNamed "math/bits.deBruijn64tab" = some 5 := by kernel_rfl
theorem tTab : (Tryd.prog.globals[5]?).map (·.type) = some 87 := by kernel_rfl

/-- A table of rows, cell by cell. -/
theorem cells_of_tab2 {H : Type} {enc : TypeId × Value → H} {P : Program} {w : World} {base : Nat} {sp : Nat → Bool} {held : Bool} {fuel : Nat} {t e1 e : TypeId} {n m : Nat} {k : IntKind} {cs : List Value} {zss : List (List Int)} {p : List MemPlace}
    (ht : P.underlying t = some (.array n e1)) (he1 : P.underlying e1 = some (.array m e)) (he : P.underlying e = some (.int k)) (hce : P.cellsOf e = 1) (hce1 : P.cellsOf e1 = m) (hct : P.cellsOf t = n * m)
    (h : DataW.trod enc P w base sp held fuel t cs = some (.agg (zss.map (Lib.tabData k)), p)) (i j : Nat) (hi : i < n) (hj : j < m) : cs[i * m + j]? = some (.int k ((zss.getD i []).getD j 0)) := by
  cases fuel with
  | zero => simp [DataW.trod] at h
  | succ fuel =>
    simp only [DataW.trod, ht, hce1, hct] at h
    split at h
    · rename_i hl
      obtain ⟨xs, hm, hx⟩ := Option.map_eq_some_iff.1 h
      have hxs : xs.map (·.1) = zss.map (Lib.tabData (H := H) k) := by
        have := congrArg Prod.fst hx
        simpa using this
      have hxl : xs.length = n := by simpa using Lib.mapM_length hm
      have hzl : zss.length = n := by
        have := congrArg List.length hxs
        simp at this
        omega
      obtain ⟨b, hb, hf⟩ := Lib.mapM_at hm i i (by simp [hi])
      have h2 : (xs.map (·.1))[i]? = some b.1 := by simp [hb]
      rw [hxs, List.getElem?_map, List.getElem?_eq_getElem (by omega)] at h2
      have hb1 : b.1 = Lib.tabData k (zss.getD i []) := by
        simp only [Option.map_some, Option.some.injEq] at h2
        rw [← h2, List.getD_eq_getElem?_getD, List.getElem?_eq_getElem (by omega)]
        rfl
      obtain ⟨b1, b2⟩ := b
      simp only at hb1
      subst hb1
      have hc := Lib.cells_of_tab he1 he hce hce1 hf
      have hg := congrArg (·[j]?) hc
      simp only [List.getElem?_take, List.getElem?_drop, hj, if_true, List.getElem?_map] at hg
      rw [hg]
      have hlen : j < (zss.getD i []).length := by
        have := congrArg List.length hc
        simp only [List.length_take, List.length_drop, List.length_map] at this
        have hb' : (i + 1) * m ≤ n * m := Nat.mul_le_mul_right _ hi
        rw [Nat.add_mul, Nat.one_mul] at hb'
        omega
      rw [List.getElem?_eq_getElem hlen, List.getD_eq_getElem?_getD (l := zss.getD i []), List.getElem?_eq_getElem hlen]
      rfl
    · cases h

theorem gFirst : Tryd.prog.globalNamed "obol/blake.beginning" = some 0 := by kernel_rfl
theorem gRows : Tryd.prog.globalNamed "obol/blake.rows" = some 4 := by kernel_rfl
theorem gPlc : Tryd.prog.globalNamed "obol/blake.places" = some 3 := by kernel_rfl
theorem tFirst : (Tryd.prog.globals[0]?).map (·.type) = some 65 := by kernel_rfl
theorem tRows : (Tryd.prog.globals[4]?).map (·.type) = some 99 := by kernel_rfl
theorem tPlc : (Tryd.prog.globals[3]?).map (·.type) = some 97 := by kernel_rfl

theorem firstI_get : ∀ j : Fin 8, (firstI.map fun z => Value.int .u32 z)[j.val]? = some (.int .u32 ((Ob.first j.val : Nat) : Int)) := by
  intro j
  have h : ∀ j : Fin 8, firstI[j.val]? = some ((Ob.first j.val : Nat) : Int) := by decide +kernel
  rw [List.getElem?_map, h j]
  rfl
theorem rowsI_get : ∀ (i : Fin 10) (j : Fin 16), (rowsI.getD i.val []).getD j.val 0 = ((Ob.sig i.val j.val : Nat) : Int) := by decide +kernel
theorem plcI_get : ∀ (i : Fin 8) (j : Fin 4), (plcI.getD i.val []).getD j.val 0 = ((Ob.plc i.val j.val : Nat) : Int) := by decide +kernel

theorem tabs_of_laid {W : World} (h : laidMetH Tryd.prog laidTab W) : TabOk W ∧ Tabs W := by
  rw [MakeChecks.laidMetH_plain _ _ _ (by kernel_rfl)] at h
  rw [laidTab_eq] at h
  obtain ⟨ps, ⟨g0, t0, cs0, fuel0, p0, q0, hg0, ht0, hvar0, hd0, ⟨g, t, cs, fuel, p, q, hg, ht, hvar, hd, ⟨g', t', cs', fuel', p', q', hg', ht', hvar', hd', ⟨g2, t2, cs2, fuel2, p2, q2, hg2, ht2, hvar2, hd2, _, _⟩, _⟩, _⟩, _⟩, _⟩ := h
  obtain rfl := Option.some.inj (gTab.symm.trans hg0)
  obtain rfl := Option.some.inj (tTab.symm.trans ht0)
  obtain rfl := Option.some.inj (gFirst.symm.trans hg)
  obtain rfl := Option.some.inj (tFirst.symm.trans ht)
  obtain rfl := Option.some.inj (gRows.symm.trans hg')
  obtain rfl := Option.some.inj (tRows.symm.trans ht')
  obtain rfl := Option.some.inj (gPlc.symm.trans hg2)
  obtain rfl := Option.some.inj (tPlc.symm.trans ht2)
  have c1 := Lib.cells_of_tab Tryd.underlying65 Tryd.underlying64 (by kernel_rfl) (by kernel_rfl) hd
  have r1 : ∀ i j, i < 10 → j < 16 → W.cell? ⟨4, i * 16 + j, none⟩ = some (.int .u8 (Ob.sig i j : Nat)) := fun i j hi hj => by
    have := cells_of_tab2 Tryd.underlying99 Tryd.underlying98 Tryd.underlying5 (by kernel_rfl) (by kernel_rfl) (by kernel_rfl) hd' i j hi hj
    rw [rowsI_get ⟨i, hi⟩ ⟨j, hj⟩] at this
    rw [World.var?_cell hg' hvar' (i * 16 + j)]
    rw [← this, Array.getElem?_toList]
  have r2 : ∀ i j, i < 8 → j < 4 → W.cell? ⟨3, i * 4 + j, none⟩ = some (.int .u8 (Ob.plc i j : Nat)) := fun i j hi hj => by
    have := cells_of_tab2 Tryd.underlying97 Tryd.underlying96 Tryd.underlying5 (by kernel_rfl) (by kernel_rfl) (by kernel_rfl) hd2 i j hi hj
    rw [plcI_get ⟨i, hi⟩ ⟨j, hj⟩] at this
    rw [World.var?_cell hg2 hvar2 (i * 4 + j)]
    rw [← this, Array.getElem?_toList]
  have r0 : ∀ j, j < 8 → W.cell? ⟨0, j, none⟩ = some (.int .u32 (Ob.first j : Nat)) := fun j hj => by
    rw [World.var?_cell hg hvar j, ← firstI_get ⟨j, hj⟩, ← c1, Array.getElem?_toList]
  have l0 := World.block_lt_of_cell? _ _ (r0 0 (by decide))
  have l1 := World.block_lt_of_cell? _ _ (r1 0 0 (by decide) (by decide))
  have l2 := World.block_lt_of_cell? _ _ (r2 0 0 (by decide) (by decide))
  have hcs := Lib.cells_of_tab Tryd.underlying87 Tryd.underlying5 (by kernel_rfl) (by kernel_rfl) hd0
  have hTab : TabOk W := by
    have hc := World.var?_cell hg0 hvar0 29
    obtain ⟨l⟩ := cs0
    simp only at hcs
    subst hcs
    show W.cell? _ = _
    rw [hc]
    rfl
  refine ⟨hTab, ?_⟩
  exact ⟨by simp at l0 l1 l2; omega, ⟨l0, r0⟩, r1, r2⟩

theorem door_met (os : Os) (args : Array Value) : laidMetH Tryd.prog laidTab ((World.doorLaid Tryd.prog 400 os).forCall (fun _ _ => 0) ⟨#[], args, []⟩).memory :=
  laidMetH_of_parts3 (fuel := 8) (laidMet_of_run' 8 (by kernel_rfl) (by kernel_rfl)) (by kernel_rfl) (by kernel_rfl)
end Go.Proofs.YtkekomiaiaacaaaDoor
