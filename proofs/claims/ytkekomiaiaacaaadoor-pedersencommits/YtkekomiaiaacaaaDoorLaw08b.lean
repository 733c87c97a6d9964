/-
  The document's own commitment, and layer 8's statement on it.
-/
import Derived.Test.YtkekomiaiaacaaaDoorJ6
import Derived.Test.YtkekomiaiaacaaaDoorRefG
namespace Go.Proofs.YtkekomiaiaacaaaDoor
open Go.RowKit Go.Proofs
set_option linter.unusedVariables false
set_option linter.unusedSimpArgs false
attribute [local go_sem ↓] Go.wp_at_zero Go.wp_at_succ
attribute [local irreducible] Ob.gmul Ob.gadd baseP Ob.gcom
theorem efindP (n : Nat) (hn : n ≤ 5) (w : World) (hT : TabOk w) (hTs : Tabs w) :
    Calls Tryd.prog 10 #[.string ⟨#[112, 101, 100, 101, 114, 115, 101, 110]⟩, .int .u64 n] w fun e w' => e = .returned (.tuple #[edV (baseP n), .nilIface]) ∧ Below w.heap.size w w' := by
  have c := efindW pedS pedS_size n (by omega) w hT hTs
  obtain ⟨k, hk⟩ := base_some n hn
  have e : fndV (findY pedS n) (Ob.firstG (findY pedS n) 128 0) = .tuple #[edV (baseP n), .nilIface] := by
    have : baseP n = fndP (findY pedS n) (Ob.firstG (findY pedS n) 128 0) := by with_unfolding_all rfl
    rw [this, hk]
    rfl
  rw [e] at c
  exact c
set_option maxHeartbeats 4000000 in
theorem gcommitW (a : Option Addr) (n c : Nat) (v : Nat → Nat) (hv : ∀ i, v i < 18446744073709551616) (hn : n ≤ 5) (x : Nat) (hx : x < 18446744073709551616) (w : World) (hT : TabOk w) (hTs : Tabs w) (hs : SrcW w.heap.size w a n v) :
    Calls Tryd.prog 14 #[.slice a n c, .int .u64 x] w fun e w' => e = .returned (.tuple #[edV (comP x v n), .bool true]) ∧ Below w.heap.size w w' := by
  have hj : ∀ i, joinW (fun _ => x) 1 v i < 18446744073709551616 := fun i => by unfold joinW; split; exact hx; exact hv _
  have hT' : Hid (TabOk w ∧ Tabs w) := ⟨hT, hTs⟩
  have hj' : Hid (∀ i, joinW (fun _ => x) 1 v i < 18446744073709551616) := hj
  obtain ⟨J, hJ⟩ : ∃ J, Hid (joinW (fun _ => x) 1 v = J) := ⟨_, rfl⟩
  have hJ0 : Hid (J 0 = x) := by rw [← hJ.out]; rfl
  have hJs : Hid (∀ i, J (i + 1) = v i) := by rw [← hJ.out]; intro i; show joinW (fun _ => x) 1 v (i + 1) = v i; unfold joinW; rw [if_neg (by omega), Nat.add_sub_cancel]
  have hF : Hid (Ob.gcom baseP (rests J) (1 + n) = comP x v n) := by rw [← hJ.out]; show _ = _; unfold comP; rfl
  rw [hJ.out] at hj'
  generalize comP x v n = T at *
  clear hT hTs hj hv hJ
  unfold edV
  have hs' : Hid (SrcW w.heap.size w a n v) := hs
  have hlen : n < 6 := by omega
  clear hs
  go_enter Tryd.func14, Tryd.ntmps14
  go_wp2
  go_loopw [7] (fun si wr => ∃ (k : Nat) (t : Ob.Ep), k ≤ n + 1 ∧ si = .int .i64 k ∧ Two wr w.heap.size (.int .u64 0) (.int .u64 0) ∧ Two wr (w.heap.size + 1) (.int .u64 (t.1.val : Nat)) (.int .u64 (t.2.val : Nat)) ∧ Below w.heap.size w wr ∧ Hid (Ob.gcom baseP (rests J) k = t)) (fun si _ => n + 1 - (intOf si).toNat)
  case atStart => exact ⟨0, Ob.gzero, by omega, rfl, by (repeat' (first | (with_reducible first | assumption | exact Two.own (by with_reducible assumption) | refine Two.set ?_ _ _ | refine Own2.set ?_ _ _ | refine Two.drew ?_ | refine Two.drewN ?_ _ | refine Own2.drew ?_ | refine Own2.drewN ?_ _ | (refine Two.new ?_; simp only [szs]; done) | (refine Own2.new ?_; simp only [szs]; done) | refine Two.alloc ?_ _ | refine Own2.alloc ?_ _ | refine Two.far ?_ ?_ _ _ | refine Own2.far ?_ ?_ _ _ | refine Two.via (by with_reducible assumption) ?_ ?_ | refine Own2.via (by with_reducible assumption) ?_ ?_) | omega | (simp only [szs]; omega))), (show Two _ _ (.int .u64 0) (.int .u64 1) from by (repeat' (first | (with_reducible first | assumption | exact Two.own (by with_reducible assumption) | refine Two.set ?_ _ _ | refine Own2.set ?_ _ _ | refine Two.drew ?_ | refine Two.drewN ?_ _ | refine Own2.drew ?_ | refine Own2.drewN ?_ _ | (refine Two.new ?_; simp only [szs]; done) | (refine Own2.new ?_; simp only [szs]; done) | refine Two.alloc ?_ _ | refine Own2.alloc ?_ _ | refine Two.far ?_ ?_ _ _ | refine Own2.far ?_ ?_ _ _ | refine Two.via (by with_reducible assumption) ?_ ?_ | refine Own2.via (by with_reducible assumption) ?_ ?_) | omega | (simp only [szs]; omega)))), by (repeat' (first | (with_reducible first | exact Below.refl _ _ | assumption | refine Below.alloc ?_ ?_ _ | refine Below.drew ?_ | refine below_drewN ?_ _ | refine Below.setCell ?_ ?_ _ | refine below_via (by with_reducible assumption) ?_ ?_) | omega | (simp only [szs]; omega) | (simp only [szs] at *; omega))), by show Ob.gcom baseP (rests J) 0 = _; rw [Ob.gcom]⟩
  case round =>
    obtain ⟨k, t, hk, rfl, t1, t2, hB, hI⟩ := hrel
    have ⟨d1, d2, d3, d4, d5⟩ := t1
    have ⟨e1, e2, e3, e4, e5⟩ := t2
    by_cases hlk : k ≤ n
    · have hlk' : (k : Int) ≤ (n : Int) := by omega
      have hwk : IntKind.u64.wrap (k : Int) = (k : Int) := wrapNat k (by omega)
      have cb := fun (W : World) (h : Below w.heap.size w W) => efindP k (by omega) W (hT'.out.1.below h hT'.out.1.lt) (hT'.out.2.below h hT'.out.2.lt)
      have cm := gtimesW (baseP_on k) (J k % 72057593894066549) (Nat.lt_trans (Nat.mod_lt _ (by decide)) (by decide))
      have ca := gsumW t (Ob.gmul (baseP k) (J k % 72057593894066549))
      have hI' : Hid (Ob.gcom baseP (rests J) (k + 1) = Ob.gadd t (Ob.gmul (baseP k) (J k % 72057593894066549))) := by
        show Ob.gcom baseP (rests J) (k + 1) = _
        rw [Ob.gcom, hI.out]; rfl
      have hr : ((J k % 72057593894066549 : Nat) : Int) = ((J k : Nat) : Int).tmod 72057593894066549 := by rw [Int.tmod_eq_emod_of_nonneg (by omega)]; omega
      have hJk : Hid ((k = 0 ∧ J k = x) ∨ ∃ j, k = j + 1 ∧ J k = v j) := by
        show _ ∨ _
        rcases Nat.eq_zero_or_pos k with h | h
        · exact Or.inl ⟨h, by rw [h]; exact hJ0.out⟩
        · exact Or.inr ⟨k - 1, by omega, by rw [← hJs.out]; congr 1; omega⟩
      generalize Ob.gadd t (Ob.gmul (baseP k) (J k % 72057593894066549)) = t' at *
      generalize Ob.gmul (baseP k) (J k % 72057593894066549) = u at *
      generalize baseP k = B at *
      generalize J k % 72057593894066549 = r at *
      generalize J k = vk at *
      clear hI
      rw [hr] at cm
      clear hr
      unfold edV at cb cm ca
      have hcell : Hid (k = 0 ∧ vk = x ∨ ∃ (j b off : Nat), k = j + 1 ∧ a = some ⟨b, off, none⟩ ∧ wr.cell? ⟨b, off + j, none⟩ = some (.int .u64 (vk : Nat))) := by
        show _ ∨ _
        rcases hJk.out with h | ⟨j, h1, h2⟩
        · exact Or.inl h
        · rcases hs'.out with h | ⟨b, off, rfl, hl, hW⟩
          · omega
          · exact Or.inr ⟨j, b, off, h1, rfl, by rw [(bcell hB).1 b _ hl, h2]; exact hW.at_ j (by omega)⟩
      clear hJk
      go_upto_if 20 with (fail)
      go_cut [8] (fun s8 wx => s8 = .int .u64 vk ∧ wr = wx)
      case first =>
        rcases hcell.out with ⟨hk0, hvx⟩ | ⟨j, b, off, hkj, rfl, hcl⟩
        · have h0 : ¬ (0 : Int) < (k : Int) := by omega
          subst hvx
          clear hk0
          go_wp2
          go_meet
          case rel => exact ⟨rfl, rfl⟩
        · have h0 : (0 : Int) < (k : Int) := by omega
          have hidx : IntKind.i64.wrap ((k : Int) - 1) = (j : Int) := by rw [IntKind.wrap_i64]; omega
          have hjn : (j : Int) < (n : Int) := by omega
          have hj0 : (0 : Int) ≤ (j : Int) := by omega
          have hkj' : Hid (k = j + 1) := hkj
          clear hkj
          go_wp2
          go_meet
          case rel => exact ⟨rfl, rfl⟩
      case rest =>
        obtain ⟨rfl, rfl⟩ := hcut
        clear hcell
        go_upto_region 9 with (go_at_call 10; (with_reducible refine (cb _ hB).mono ?_); rintro e w1 ⟨rfl, b1⟩)
        have z1 := b1.size
        have s2 : Two (w1.alloc (.cells #[.int .u64 (B.1.val : Nat), .int .u64 (B.2.val : Nat)] 25)) w.heap.size (.int .u64 0) (.int .u64 0) := by (repeat' (first | (with_reducible first | assumption | exact Two.own (by with_reducible assumption) | refine Two.set ?_ _ _ | refine Own2.set ?_ _ _ | refine Two.drew ?_ | refine Two.drewN ?_ _ | refine Own2.drew ?_ | refine Own2.drewN ?_ _ | (refine Two.new ?_; simp only [szs]; done) | (refine Own2.new ?_; simp only [szs]; done) | refine Two.alloc ?_ _ | refine Own2.alloc ?_ _ | refine Two.far ?_ ?_ _ _ | refine Own2.far ?_ ?_ _ _ | refine Two.via (by with_reducible assumption) ?_ ?_ | refine Own2.via (by with_reducible assumption) ?_ ?_) | omega | (simp only [szs]; omega)))
        have s3 : Two (w1.alloc (.cells #[.int .u64 (B.1.val : Nat), .int .u64 (B.2.val : Nat)] 25)) (w.heap.size + 1) (.int .u64 (t.1.val : Nat)) (.int .u64 (t.2.val : Nat)) := by (repeat' (first | (with_reducible first | assumption | exact Two.own (by with_reducible assumption) | refine Two.set ?_ _ _ | refine Own2.set ?_ _ _ | refine Two.drew ?_ | refine Two.drewN ?_ _ | refine Own2.drew ?_ | refine Own2.drewN ?_ _ | (refine Two.new ?_; simp only [szs]; done) | (refine Own2.new ?_; simp only [szs]; done) | refine Two.alloc ?_ _ | refine Own2.alloc ?_ _ | refine Two.far ?_ ?_ _ _ | refine Own2.far ?_ ?_ _ _ | refine Two.via (by with_reducible assumption) ?_ ?_ | refine Own2.via (by with_reducible assumption) ?_ ?_) | omega | (simp only [szs]; omega)))
        have s4 : Two (w1.alloc (.cells #[.int .u64 (B.1.val : Nat), .int .u64 (B.2.val : Nat)] 25)) w1.heap.size (.int .u64 (B.1.val : Nat)) (.int .u64 (B.2.val : Nat)) := by (repeat' (first | (with_reducible first | assumption | exact Two.own (by with_reducible assumption) | refine Two.set ?_ _ _ | refine Own2.set ?_ _ _ | refine Two.drew ?_ | refine Two.drewN ?_ _ | refine Own2.drew ?_ | refine Own2.drewN ?_ _ | (refine Two.new ?_; simp only [szs]; done) | (refine Own2.new ?_; simp only [szs]; done) | refine Two.alloc ?_ _ | refine Own2.alloc ?_ _ | refine Two.far ?_ ?_ _ _ | refine Own2.far ?_ ?_ _ _ | refine Two.via (by with_reducible assumption) ?_ ?_ | refine Own2.via (by with_reducible assumption) ?_ ?_) | omega | (simp only [szs]; omega)))
        have hB1 : Below w.heap.size w (w1.alloc (.cells #[.int .u64 (B.1.val : Nat), .int .u64 (B.2.val : Nat)] 25)) := by have := hB.size; (repeat' (first | (with_reducible first | exact Below.refl _ _ | assumption | refine Below.alloc ?_ ?_ _ | refine Below.drew ?_ | refine below_drewN ?_ _ | refine Below.setCell ?_ ?_ _ | refine below_via (by with_reducible assumption) ?_ ?_) | omega | (simp only [szs]; omega) | (simp only [szs] at *; omega)))
        have n1 : w.heap.size ≠ w1.heap.size := by omega
        have n2 : w1.heap.size ≠ w.heap.size := by omega
        have n3 : w.heap.size + 1 ≠ w1.heap.size := by omega
        have n4 : w1.heap.size ≠ w.heap.size + 1 := by omega
        generalize (w1.alloc (.cells #[.int .u64 (B.1.val : Nat), .int .u64 (B.2.val : Nat)] 25)) = W at *
        generalize w1.heap.size = bx at *
        clear b1 z1 cb hB t1 t2 d1 d2 d3 d4 d5 e1 e2 e3 e4 e5
        go_wp2
        have ⟨d1, d2, d3, d4, d5⟩ := s2
        have ⟨e1, e2, e3, e4, e5⟩ := s3
        have ⟨f1, f2, f3, f4, f5⟩ := s4
        have zB := hB1.size
        refine wp_region_noPanic ?_
        refine region_lastly (S := (fun w' => w'.cell? ⟨w.heap.size + 1, 0, none⟩ = some (.int .u64 (t.1.val : Nat)) ∧ w'.cell? ⟨w.heap.size + 1, 1, none⟩ = some (.int .u64 (t.2.val : Nat)) ∧ w'.cell? ⟨bx, 0, none⟩ = some (.int .u64 (B.1.val : Nat)) ∧ w'.cell? ⟨bx, 1, none⟩ = some (.int .u64 (B.2.val : Nat)))) [6] (by kernel_rfl) (by ((try dsimp only); ((refine cells_and (cells2 ?_) (cells2 ?_); (focus (repeat' (first | (with_reducible first | assumption | exact Two.own (by with_reducible assumption) | refine Two.set ?_ _ _ | refine Own2.set ?_ _ _ | refine Two.drew ?_ | refine Two.drewN ?_ _ | refine Own2.drew ?_ | refine Own2.drewN ?_ _ | (refine Two.new ?_; simp only [szs]; done) | (refine Own2.new ?_; simp only [szs]; done) | refine Two.alloc ?_ _ | refine Own2.alloc ?_ _ | refine Two.far ?_ ?_ _ _ | refine Own2.far ?_ ?_ _ _ | refine Two.via (by with_reducible assumption) ?_ ?_ | refine Own2.via (by with_reducible assumption) ?_ ?_) | omega | (simp only [szs]; omega)))); (focus (repeat' (first | (with_reducible first | assumption | exact Two.own (by with_reducible assumption) | refine Two.set ?_ _ _ | refine Own2.set ?_ _ _ | refine Two.drew ?_ | refine Two.drewN ?_ _ | refine Own2.drew ?_ | refine Own2.drewN ?_ _ | (refine Two.new ?_; simp only [szs]; done) | (refine Own2.new ?_; simp only [szs]; done) | refine Two.alloc ?_ _ | refine Own2.alloc ?_ _ | refine Two.far ?_ ?_ _ _ | refine Own2.far ?_ ?_ _ _ | refine Two.via (by with_reducible assumption) ?_ ?_ | refine Own2.via (by with_reducible assumption) ?_ ?_) | omega | (simp only [szs]; omega)))))))) (fun hHeld => ?_)
        refine anyZ_take (i := 0) (oi := ?oi_1) (v := ?v_1) ?hi_1 ?hz_1 ?hs_1 ?hf_1 ?hr_1 ?hQ_1 (Or.inl ⟨?hw_1, ?hy_1⟩) ?hS_1 ?hrest_1
        case hi_1 => (simp only [List.getElem?_toArray, List.getElem?_cons_succ, List.getElem?_cons_zero]; exact rfl)
        case hz_1 => kernel_rfl
        case hs_1 => kernel_rfl
        case hf_1 => kernel_rfl
        case hr_1 => kernel_rfl
        case hQ_1 => exact fun _ _ _ h => h
        case hw_1 => rfl
        case hS_1 => assumption
        case hy_1 => (intro w hSw; (try dsimp only at hSw); go_simp; try with_reducible rfl)
        try simp only [Act.put, List.setIfInBounds_toArray, List.set_cons_zero, List.set_cons_succ]
        refine anyZ_take (i := 1) (oi := ?oi_2) (v := ?v_2) ?hi_2 ?hz_2 ?hs_2 ?hf_2 ?hr_2 ?hQ_2 (Or.inl ⟨?hw_2, ?hy_2⟩) ?hS_2 ?hrest_2
        case hi_2 => (simp only [List.getElem?_toArray, List.getElem?_cons_succ, List.getElem?_cons_zero]; exact rfl)
        case hz_2 => kernel_rfl
        case hs_2 => kernel_rfl
        case hf_2 => kernel_rfl
        case hr_2 => kernel_rfl
        case hQ_2 => exact fun _ _ _ h => h
        case hw_2 => rfl
        case hS_2 => assumption
        case hy_2 => (intro w hSw; (try dsimp only at hSw); go_simp; try with_reducible rfl)
        try simp only [Act.put, List.setIfInBounds_toArray, List.set_cons_zero, List.set_cons_succ]
        refine anyZ_free (i := 2) (oi := ?oi_3) (v := ?v_3) ?hi_3 ?hs_3 ?hf_3 ?hr_3 ?hQ_3 (Or.inl ⟨?hw_3, ?hy_3⟩) ?hrest_3
        case hi_3 => (simp only [List.getElem?_toArray, List.getElem?_cons_succ, List.getElem?_cons_zero]; exact rfl)
        case hs_3 => kernel_rfl
        case hf_3 => kernel_rfl
        case hr_3 => kernel_rfl
        case hQ_3 => exact fun _ _ _ h => h
        case hw_3 => rfl
        case hy_3 => (intro w _; go_simp; try with_reducible rfl)
        try simp only [Act.put, List.setIfInBounds_toArray, List.set_cons_zero, List.set_cons_succ]
        refine anyZ_free (i := 3) (oi := ?oi_4) (v := ?v_4) ?hi_4 ?hs_4 ?hf_4 ?hr_4 ?hQ_4 (Or.inl ⟨?hw_4, ?hy_4⟩) ?hrest_4
        case hi_4 => (simp only [List.getElem?_toArray, List.getElem?_cons_succ, List.getElem?_cons_zero]; exact rfl)
        case hs_4 => kernel_rfl
        case hf_4 => kernel_rfl
        case hr_4 => kernel_rfl
        case hQ_4 => exact fun _ _ _ h => h
        case hw_4 => rfl
        case hy_4 => (intro w _; go_simp; try with_reducible rfl)
        try simp only [Act.put, List.setIfInBounds_toArray, List.set_cons_zero, List.set_cons_succ]
        refine anyZ_ready (rs := [4]) (by kernel_rfl) (by simp) ?_
        refine (AllZ.cons (o := ?o_5) ?ho_5 (fun K hK => ?st_5) AllZ.nil)
        case ho_5 => (simp only [List.getElem?_toArray, List.getElem?_cons_succ, List.getElem?_cons_zero]; exact rfl)
        case st_5 =>
          go_simp
          (first | (go_at_call 25; first | (with_reducible refine (cm _).mono ?_; rintro e w_cm ⟨rfl, b_cm⟩; have z_cm := b_cm.size; (try simp only [szs] at z_cm); (try (have q_cm_0 := own2 b_cm (w.heap.size) (by first | omega | (simp only [szs]; omega)))); (try (have q_cm_1 := own2 b_cm (w.heap.size + 1) (by first | omega | (simp only [szs]; omega)))); (try (have q_cm_2 := own2 b_cm (bx) (by first | omega | (simp only [szs]; omega)))))))
          refine hK.out _ _ (by ((try dsimp only); ((refine cells_and (cells2 ?_) (cells2 ?_); (focus (repeat' (first | (with_reducible first | assumption | exact Two.own (by with_reducible assumption) | refine Two.set ?_ _ _ | refine Own2.set ?_ _ _ | refine Two.drew ?_ | refine Two.drewN ?_ _ | refine Own2.drew ?_ | refine Own2.drewN ?_ _ | (refine Two.new ?_; simp only [szs]; done) | (refine Own2.new ?_; simp only [szs]; done) | refine Two.alloc ?_ _ | refine Own2.alloc ?_ _ | refine Two.far ?_ ?_ _ _ | refine Own2.far ?_ ?_ _ _ | refine Two.via (by with_reducible assumption) ?_ ?_ | refine Own2.via (by with_reducible assumption) ?_ ?_) | omega | (simp only [szs]; omega)))); (focus (repeat' (first | (with_reducible first | assumption | exact Two.own (by with_reducible assumption) | refine Two.set ?_ _ _ | refine Own2.set ?_ _ _ | refine Two.drew ?_ | refine Two.drewN ?_ _ | refine Own2.drew ?_ | refine Own2.drewN ?_ _ | (refine Two.new ?_; simp only [szs]; done) | (refine Own2.new ?_; simp only [szs]; done) | refine Two.alloc ?_ _ | refine Own2.alloc ?_ _ | refine Two.far ?_ ?_ _ _ | refine Own2.far ?_ ?_ _ _ | refine Two.via (by with_reducible assumption) ?_ ?_ | refine Own2.via (by with_reducible assumption) ?_ ?_) | omega | (simp only [szs]; omega)))))))) (fun hHeld => ?_)
          clear hK K
          try simp only [Act.put, List.setIfInBounds_toArray, List.set_cons_zero, List.set_cons_succ]
          refine anyZ_ready (rs := [5]) (by kernel_rfl) (by simp) ?_
          refine (AllZ.cons (o := ?o_6) ?ho_6 (fun K hK => ?st_6) AllZ.nil)
          case ho_6 => (simp only [List.getElem?_toArray, List.getElem?_cons_succ, List.getElem?_cons_zero]; exact rfl)
          case st_6 =>
            go_simp
            (first | (go_at_call 24; first | (with_reducible refine (ca _).mono ?_; rintro e w_ca ⟨rfl, b_ca⟩; have z_ca := b_ca.size; (try simp only [szs] at z_ca); (try (have q_ca_0 := own2 b_ca (w.heap.size) (by first | omega | (simp only [szs]; omega)))); (try (have q_ca_1 := own2 b_ca (w.heap.size + 1) (by first | omega | (simp only [szs]; omega)))); (try (have q_ca_2 := own2 b_ca (bx) (by first | omega | (simp only [szs]; omega)))))))
            refine hK.out _ _ (by ((try dsimp only); ((refine cells_and (cells2 ?_) (cells2 ?_); (focus (repeat' (first | (with_reducible first | assumption | exact Two.own (by with_reducible assumption) | refine Two.set ?_ _ _ | refine Own2.set ?_ _ _ | refine Two.drew ?_ | refine Two.drewN ?_ _ | refine Own2.drew ?_ | refine Own2.drewN ?_ _ | (refine Two.new ?_; simp only [szs]; done) | (refine Own2.new ?_; simp only [szs]; done) | refine Two.alloc ?_ _ | refine Own2.alloc ?_ _ | refine Two.far ?_ ?_ _ _ | refine Own2.far ?_ ?_ _ _ | refine Two.via (by with_reducible assumption) ?_ ?_ | refine Own2.via (by with_reducible assumption) ?_ ?_) | omega | (simp only [szs]; omega)))); (focus (repeat' (first | (with_reducible first | assumption | exact Two.own (by with_reducible assumption) | refine Two.set ?_ _ _ | refine Own2.set ?_ _ _ | refine Two.drew ?_ | refine Two.drewN ?_ _ | refine Own2.drew ?_ | refine Own2.drewN ?_ _ | (refine Two.new ?_; simp only [szs]; done) | (refine Own2.new ?_; simp only [szs]; done) | refine Two.alloc ?_ _ | refine Own2.alloc ?_ _ | refine Two.far ?_ ?_ _ _ | refine Own2.far ?_ ?_ _ _ | refine Two.via (by with_reducible assumption) ?_ ?_ | refine Own2.via (by with_reducible assumption) ?_ ?_) | omega | (simp only [szs]; omega)))))))) (fun hHeld => ?_)
            clear hK K
            try simp only [Act.put, List.setIfInBounds_toArray, List.set_cons_zero, List.set_cons_succ]
            refine anyZ_ready (rs := [6]) (by kernel_rfl) (by simp) ?_
            refine (AllZ.last (o := ?o_7) ?ho_7 (by rfl) (fun K hK => ?st_7) AllZ.nil)
            case ho_7 => (simp only [List.getElem?_toArray, List.getElem?_cons_succ, List.getElem?_cons_zero]; exact rfl)
            case st_7 =>
              go_simp
              refine hK.out _ _ ?_
              clear hK K
              try simp only [Act.put, List.setIfInBounds_toArray, List.set_cons_zero, List.set_cons_succ]
              refine anyZ_done (by kernel_rfl) ?_ _
              refine NoPanic.normal ?_
              go_wp2
              go_roundw
              case rel => exact ⟨k + 1, t', by omega, by go_num, by (repeat' (first | (with_reducible first | assumption | exact Two.own (by with_reducible assumption) | refine Two.set ?_ _ _ | refine Own2.set ?_ _ _ | refine Two.drew ?_ | refine Two.drewN ?_ _ | refine Own2.drew ?_ | refine Own2.drewN ?_ _ | (refine Two.new ?_; simp only [szs]; done) | (refine Own2.new ?_; simp only [szs]; done) | refine Two.alloc ?_ _ | refine Own2.alloc ?_ _ | refine Two.far ?_ ?_ _ _ | refine Own2.far ?_ ?_ _ _ | refine Two.via (by with_reducible assumption) ?_ ?_ | refine Own2.via (by with_reducible assumption) ?_ ?_) | omega | (simp only [szs]; omega))), by (repeat' (first | (with_reducible first | assumption | exact Two.own (by with_reducible assumption) | refine Two.set ?_ _ _ | refine Own2.set ?_ _ _ | refine Two.drew ?_ | refine Two.drewN ?_ _ | refine Own2.drew ?_ | refine Own2.drewN ?_ _ | (refine Two.new ?_; simp only [szs]; done) | (refine Own2.new ?_; simp only [szs]; done) | refine Two.alloc ?_ _ | refine Own2.alloc ?_ _ | refine Two.far ?_ ?_ _ _ | refine Own2.far ?_ ?_ _ _ | refine Two.via (by with_reducible assumption) ?_ ?_ | refine Own2.via (by with_reducible assumption) ?_ ?_) | omega | (simp only [szs]; omega))), by (repeat' (first | (with_reducible first | exact Below.refl _ _ | assumption | refine Below.alloc ?_ ?_ _ | refine Below.drew ?_ | refine below_drewN ?_ _ | refine Below.setCell ?_ ?_ _ | refine below_via (by with_reducible assumption) ?_ ?_) | omega | (simp only [szs]; omega) | (simp only [szs] at *; omega))), hI'⟩
              case measure => simp [intOf]; omega
    · have hlk' : ¬ (k : Int) ≤ (n : Int) := by omega
      obtain rfl : k = 1 + n := by omega
      obtain rfl : T = t := hF.out.symm.trans hI.out
      go_wp2
      exact bodyPost_ret (v := .tuple #[.agg #[.int .u64 (T.1.val : Nat), .int .u64 (T.2.val : Nat)], .bool true]) (by simp [results, Tryd.results14, go_sem, *]) rfl ⟨rfl, by (repeat' (first | (with_reducible first | exact Below.refl _ _ | assumption | refine Below.alloc ?_ ?_ _ | refine Below.drew ?_ | refine below_drewN ?_ _ | refine Below.setCell ?_ ?_ _ | refine below_via (by with_reducible assumption) ?_ ?_) | omega | (simp only [szs]; omega) | (simp only [szs] at *; omega)))⟩
end Go.Proofs.YtkekomiaiaacaaaDoor
