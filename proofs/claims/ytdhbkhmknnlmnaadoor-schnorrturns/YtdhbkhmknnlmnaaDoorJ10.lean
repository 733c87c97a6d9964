/-
  Joined texts: The document's own digest, walked: a block pressed.
-/
import Derived.Test.YtdhbkhmknnlmnaaDoorJ9
import Derived.Test.YtdhbkhmknnlmnaaDoorJ4
import Derived.Test.YtdhbkhmknnlmnaaDoorJ2

namespace Go.Proofs.YtdhbkhmknnlmnaaDoor
open Go.RowKit Go.Proofs
set_option linter.unusedVariables false
set_option linter.unusedSimpArgs false
attribute [local go_sem ↓] Go.wp_at_zero Go.wp_at_succ

set_option maxHeartbeats 8000000 in
set_option maxRecDepth 20000 in
theorem rpress_core (h : Nat → Nat) (hh : Ob.Words32 h) (b off c : Nat) (z : Nat → Nat) (hz : ∀ i, z i < 256) (n : Nat) (hn : n < 18446744073709551616) (last : Bool) (w : World) (hY : Bys w b off 64 z) :
    Calls Tryd.prog 52 #[arrV .u32 h 8, .slice (some ⟨b, off, none⟩) 64 c, .int .u64 n, .bool last] w fun e w' => e = .returned (arrV .u32 (Ob.press h (wordAt z) n last) 8) ∧ Below w.heap.size w w' := by
  unfold arrV
  have hl := arrL_length .u32 h 8
  have hh' : Hid (Ob.Words32 h) := hh
  have hz' : Hid (∀ i, z i < 256) := hz
  clear hh hz
  go_enter Tryd.func52, Tryd.ntmps52
  go_upto_region 1 with (fail)
  obtain ⟨W0, hW0⟩ : ∃ W, Hid ((w.alloc (.cells (arrL .u32 h 8).toArray 65)).alloc (.cells (arrL .u32 (fun _ => 0) 8).toArray 65) = W) := ⟨_, rfl⟩
  have th0 : Arr W0 .u32 w.heap.size 8 h := by rw [← hW0.out]; exact (Arr.new rfl).alloc _
  have tr0 : Arr W0 .u32 (w.heap.size + 1) 8 (fun _ => 0) := by rw [← hW0.out]; exact Arr.new (by simp)
  have hB0 : Below w.heap.size w W0 := by rw [← hW0.out]; (repeat' (first | (with_reducible first | exact Below.refl _ _ | assumption | refine Below.alloc ?_ ?_ _ | refine Below.drew ?_ | refine below_drewN ?_ _ | refine Below.setCell ?_ ?_ _ | refine below_via (by with_reducible assumption) ?_ ?_) | omega | (simp only [szs]; omega) | (simp only [szs] at *; omega)))
  change Code.wp _ _ _ _ ((w.alloc (.cells (arrL .u32 h 8).toArray 65)).alloc (.cells (arrL .u32 (fun _ => 0) 8).toArray 65))
  rw [hW0.out]
  clear hW0
  have c1 := rwordsW b off 64 16 c (by decide) (by decide) z hz'.out (by decide) W0 (hY.below hB0 hY.lt)
  obtain ⟨N, hN⟩ : ∃ N, Hid (w.heap.size = N) := ⟨_, rfl⟩
  rw [hN.out] at th0 tr0 hB0 ⊢
  have l0 := tr0.lt
  go_upto_region 2 with (go_at_call 50; with_reducible refine c1.mono ?_; rintro e W1 ⟨M, mc, rfl, lM, tm1, b1⟩)
  have lNM : N + 1 < M := by omega
  have l1 := b1.size
  have th1 := th0.below b1 (by omega)
  have tr1 := tr0.below b1 (by omega)
  have hB1 : Below N w W1 := below_via b1 hB0 (by omega)
  have lm1 := tm1.lt
  clear th0 tr0 hB0 b1 c1
  have c2 := rfirstW W1
  unfold arrV at c2
  go_upto_region 3 with (first | ((with_reducible refine wpList_storeLit (Ob.first) Arr.new8 ?_ ?_ ?_ ?_); (focus rfl); (focus rfl); (focus kernel_rfl); intro W3 hW3_ tW3_ zW3_; try simp only [Act.put, List.setIfInBounds_toArray, List.set_cons_zero, List.set_cons_succ]) | (go_at_call 51; with_reducible refine c2.mono ?_; rintro e W2 ⟨rfl, b2⟩))
  have l2 := b2.size
  have th3 : Arr W3 .u32 N 8 h := by rw [hW3_.out]; exact ((th1.below b2 (by omega)).alloc _).farCells (by omega) _ _
  have tr3 : Arr W3 .u32 (N + 1) 8 (fun _ => 0) := by rw [hW3_.out]; exact ((tr1.below b2 (by omega)).alloc _).farCells (by omega) _ _
  have tm3 : Arr W3 .u32 M 16 (wordAt z) := by rw [hW3_.out]; exact ((tm1.below b2 (by omega)).alloc _).farCells (by omega) _ _
  have hB2 : Below N w W2 := below_via b2 hB1 (by omega)
  have hB3 : Below N w W3 := by rw [hW3_.out]; exact below_setCells (hB2.alloc (by omega) _) (by omega) _ _
  have tf3 := tW3_.out
  obtain ⟨F, hF⟩ : ∃ V, Hid (W2.heap.size = V) := ⟨_, rfl⟩
  rw [hF.out] at tf3
  have lF : M < F := by have := hF.out; omega
  rw [hF.out]
  have l3 := tf3.lt
  clear th1 tr1 tm1 hB1 hB2 hW3_ tW3_ zW3_ l2 b2 c2 hF lm1 l1 l0
  go_upto_region 4 with (first | ((with_reducible refine wpList_storeLit ((fun _ => 0)) Arr.new16 ?_ ?_ ?_ ?_); (focus rfl); (focus rfl); (focus kernel_rfl); intro W4 hW4_ tW4_ zW4_; try simp only [Act.put, List.setIfInBounds_toArray, List.set_cons_zero, List.set_cons_succ]))
  have th4 : Hid (Arr W4 .u32 N 8 h) := by rw [hW4_.out]; exact (th3.alloc _).farCells (by omega) _ _
  have tr4 : Hid (Arr W4 .u32 (N + 1) 8 (fun _ => 0)) := by rw [hW4_.out]; exact (tr3.alloc _).farCells (by omega) _ _
  have tm4 : Hid (Arr W4 .u32 M 16 (wordAt z)) := by rw [hW4_.out]; exact (tm3.alloc _).farCells (by omega) _ _
  have tf4 : Hid (Arr W4 .u32 F 8 Ob.first) := by rw [hW4_.out]; exact (tf3.alloc _).farCells (by omega) _ _
  have hB4 : Below N w W4 := by have := hB3.size; have := hN.out; rw [hW4_.out]; exact below_setCells (hB3.alloc (by omega) _) (by omega) _ _
  have tv4 : Hid (Arr W4 .u32 W3.heap.size 16 (Ob.sixI h 0)) := by rw [Ob.sixI_zero]; exact tW4_.out
  obtain ⟨V, hV⟩ : ∃ V, Hid (W3.heap.size = V) := ⟨_, rfl⟩
  rw [hV.out] at tv4 l3 ⊢
  clear th3 tr3 tm3 tf3 hB3 hW4_ tW4_ zW4_ hV
  go_wp2
  go_loopw [12] (fun s12 wr => ∃ (i : Nat), i ≤ 8 ∧ s12 = .int .i64 (i : Nat) ∧ Hid (Arr wr .u32 N 8 h) ∧ Hid (Arr wr .u32 (N + 1) 8 (fun _ => 0)) ∧ Hid (Arr wr .u32 M 16 (wordAt z)) ∧ Hid (Arr wr .u32 F 8 Ob.first) ∧ Hid (Arr wr .u32 V 16 (Ob.sixI h i)) ∧ Below N w wr) (fun s12 _ => 8 - (intOf s12).toNat)
  case atStart => exact ⟨0, by omega, rfl, th4, tr4, tm4, tf4, tv4, hB4⟩
  case round =>
    clear th4 tr4 tm4 tf4 tv4 hB4
    obtain ⟨i, hi, rfl, th, tr, tm, tf, tv, hB⟩ := hrel
    have l0 := hB.size
    by_cases hlt : i < 8
    · have p0 := th.out.c i hlt
      have p1 := tf.out.c i hlt
      have p2 := tv.out.c i (by omega)
      have p3 := tv.out.c (i + 8) (by omega)
      have p4 := tv.out.f i (by omega)
      have p5 := tv.out.f (i + 8) (by omega)
      have i0 : (i : Int) < 8 := by omega
      have i1 : (0 : Int) ≤ (i : Int) := by omega
      have i2 : (i : Int) < 16 := by omega
      have i3 : IntKind.i64.wrap (8 + (i : Int)) = ((i + 8 : Nat) : Int) := by rw [IntKind.wrap_i64]; omega
      have i4 : ((i + 8 : Nat) : Int) < 16 := by omega
      have i5 : (0 : Int) ≤ ((i + 8 : Nat) : Int) := by omega
      obtain ⟨k, hk⟩ : ∃ k, Hid (i + 8 = k) := ⟨_, rfl⟩
      rw [hk.out] at i3 i4 i5 p3 p5
      have ik : i ≠ k := by have := hk.out; omega
      have vf : V ≠ F := by omega
      have tv1 : Hid (Arr ((wr.setCell ⟨V, i, none⟩ (.int .u32 (h i : Nat))).setCell ⟨V, k, none⟩ (.int .u32 (Ob.first i : Nat))) .u32 V 16 (Ob.sixI h (i + 1))) := by
        have q := (tv.out.set (i := i) (z := h i) (by omega)).set (i := k) (z := Ob.first i) (by have := hk.out; omega)
        rw [← hk.out, Ob.sixI_succ h hlt, hk.out] at q
        exact q
      have th1 : Hid (Arr ((wr.setCell ⟨V, i, none⟩ (.int .u32 (h i : Nat))).setCell ⟨V, k, none⟩ (.int .u32 (Ob.first i : Nat))) .u32 N 8 h) := (th.out.far (by omega) _ _).far (by omega) _ _
      have tr1 : Hid (Arr ((wr.setCell ⟨V, i, none⟩ (.int .u32 (h i : Nat))).setCell ⟨V, k, none⟩ (.int .u32 (Ob.first i : Nat))) .u32 (N + 1) 8 (fun _ => 0)) := (tr.out.far (by omega) _ _).far (by omega) _ _
      have tm1 : Hid (Arr ((wr.setCell ⟨V, i, none⟩ (.int .u32 (h i : Nat))).setCell ⟨V, k, none⟩ (.int .u32 (Ob.first i : Nat))) .u32 M 16 (wordAt z)) := (tm.out.far (by omega) _ _).far (by omega) _ _
      have tf1 : Hid (Arr ((wr.setCell ⟨V, i, none⟩ (.int .u32 (h i : Nat))).setCell ⟨V, k, none⟩ (.int .u32 (Ob.first i : Nat))) .u32 F 8 Ob.first) := (tf.out.far (by omega) _ _).far (by omega) _ _
      have hB1 : Below N w ((wr.setCell ⟨V, i, none⟩ (.int .u32 (h i : Nat))).setCell ⟨V, k, none⟩ (.int .u32 (Ob.first i : Nat))) := by (repeat' (first | (with_reducible first | exact Below.refl _ _ | assumption | refine Below.alloc ?_ ?_ _ | refine Below.drew ?_ | refine below_drewN ?_ _ | refine Below.setCell ?_ ?_ _ | refine below_via (by with_reducible assumption) ?_ ?_) | omega | (simp only [szs]; omega) | (simp only [szs] at *; omega)))
      go_wp2
      go_roundw
      case rel => exact ⟨i + 1, by omega, by go_num, th1, tr1, tm1, tf1, tv1, hB1⟩
      case measure => (simp only [intOf, Int.toNat_natCast]; omega)
    · obtain rfl : i = 8 := by omega
      go_upto_region 9 with (fail)
      rw [show ((8 : Nat) : Int) = 8 from rfl]
      have t0 : Arr wr .u32 V 16 (Ob.six0 h) := tv.out.congr (Ob.sixI_end h)
      clear tv tf
      have hs := Ob.six0_words hh'.out
      obtain ⟨lo, hlo, elo⟩ : ∃ lo : Nat, Hid (n % 4294967296 = lo) ∧ IntKind.u32.wrap (n : Int) = (lo : Int) := ⟨_, rfl, by rw [IntKind.wrap_u32]; omega⟩
      obtain ⟨hi', hhi, ehi⟩ : ∃ lo : Nat, Hid (n / 4294967296 = lo) ∧ IntKind.u32.wrap ((n : Int) / 4294967296) = (lo : Int) := ⟨_, rfl, by rw [IntKind.wrap_u32]; omega⟩
      have llo : lo < 4294967296 := by have := hlo.out; omega
      have lhi : hi' < 4294967296 := by have := hhi.out; omega
      have x12 := xor_u32 (Ob.six0 h 12) lo (hs 12) llo
      have x13 := xor_u32 (Ob.six0 h 13) hi' (hs 13) lhi
      have c12 := t0.c 12 (by decide)
      have f12 := t0.f 12 (by decide)
      have c13 := t0.c 13 (by decide)
      have f13 := t0.f 13 (by decide)
      have x14 := xor_u32 (Ob.six0 h 14) 4294967295 (hs 14) (by decide)
      clear hs
      obtain ⟨X12, hX12⟩ : ∃ z, Hid (Ob.six0 h 12 ^^^ lo = z) := ⟨_, rfl⟩
      obtain ⟨X13, hX13⟩ : ∃ z, Hid (Ob.six0 h 13 ^^^ hi' = z) := ⟨_, rfl⟩
      rw [hX12.out] at x12
      rw [hX13.out] at x13
      go_upto_region 11 with (fail)
      have t1 : Arr ((wr.setCell ⟨V, 12, none⟩ (.int .u32 (X12 : Nat))).setCell ⟨V, 13, none⟩ (.int .u32 (X13 : Nat))) .u32 V 16 (Ob.upd (Ob.upd (Ob.six0 h) 12 X12) 13 X13) := (t0.set (by decide)).set (by decide)
      have th1 : Hid (Arr ((wr.setCell ⟨V, 12, none⟩ (.int .u32 (X12 : Nat))).setCell ⟨V, 13, none⟩ (.int .u32 (X13 : Nat))) .u32 N 8 h) := (th.out.far (by omega) _ _).far (by omega) _ _
      have tr1 : Hid (Arr ((wr.setCell ⟨V, 12, none⟩ (.int .u32 (X12 : Nat))).setCell ⟨V, 13, none⟩ (.int .u32 (X13 : Nat))) .u32 (N + 1) 8 (fun _ => 0)) := (tr.out.far (by omega) _ _).far (by omega) _ _
      have tm1 : Hid (Arr ((wr.setCell ⟨V, 12, none⟩ (.int .u32 (X12 : Nat))).setCell ⟨V, 13, none⟩ (.int .u32 (X13 : Nat))) .u32 M 16 (wordAt z)) := (tm.out.far (by omega) _ _).far (by omega) _ _
      have hB1 : Below N w ((wr.setCell ⟨V, 12, none⟩ (.int .u32 (X12 : Nat))).setCell ⟨V, 13, none⟩ (.int .u32 (X13 : Nat))) := by (repeat' (first | (with_reducible first | exact Below.refl _ _ | assumption | refine Below.alloc ?_ ?_ _ | refine Below.drew ?_ | refine below_drewN ?_ _ | refine Below.setCell ?_ ?_ _ | refine below_via (by with_reducible assumption) ?_ ?_) | omega | (simp only [szs]; omega) | (simp only [szs] at *; omega)))
      clear t0 th tr tm hB c12 f12 c13 f13 x12 x13 elo ehi llo lhi
      generalize ((wr.setCell ⟨V, 12, none⟩ (.int .u32 (X12 : Nat))).setCell ⟨V, 13, none⟩ (.int .u32 (X13 : Nat))) = W5 at *
      have t1' : Hid (Arr W5 .u32 V 16 (Ob.upd (Ob.upd (Ob.six0 h) 12 X12) 13 X13)) := t1
      have c14 := t1.c 14 (by decide)
      have f14 := t1.f 14 (by decide)
      rw [Ob.upd_ne _ _ (by decide), Ob.upd_ne _ _ (by decide)] at c14
      clear t1
      go_upto_if 48 with (fail)
      go_cut [48] (fun s48 w6 => Hid (Arr w6 .u32 V 16 (Ob.six h n last)) ∧ Hid (Arr w6 .u32 N 8 h) ∧ Hid (Arr w6 .u32 (N + 1) 8 (fun _ => 0)) ∧ Hid (Arr w6 .u32 M 16 (wordAt z)) ∧ Below N w w6)
      case first =>
        cases last with
        | false =>
          have hV : Hid (Ob.upd (Ob.upd (Ob.six0 h) 12 X12) 13 X13 = Ob.six h n false) := by
            show _ = _
            rw [← hX12.out, ← hX13.out, ← hlo.out, ← hhi.out]
            rfl
          rw [hV.out] at t1'
          clear hV hX12 hX13 hlo hhi
          go_wp2
          go_meet
          case rel => exact ⟨t1', th1, tr1, tm1, hB1⟩
        | true =>
          obtain ⟨X14, hX14⟩ : ∃ z, Hid (Ob.six0 h 14 ^^^ 4294967295 = z) := ⟨_, rfl⟩
          rw [hX14.out] at x14
          have x14' : bits .xor .u32 ((Ob.six0 h 14 : Nat) : Int) 4294967295 = (X14 : Int) := x14
          have t2 : Hid (Arr (W5.setCell ⟨V, 14, none⟩ (.int .u32 (X14 : Nat))) .u32 V 16 (Ob.six h n true)) := by
            have q := t1'.out.set (i := 14) (z := X14) (by decide)
            rw [← hX12.out, ← hX13.out, ← hlo.out, ← hhi.out, ← hX14.out] at q
            rw [← hX14.out]
            exact q
          have th2 : Hid (Arr (W5.setCell ⟨V, 14, none⟩ (.int .u32 (X14 : Nat))) .u32 N 8 h) := th1.out.far (by omega) _ _
          have tr2 : Hid (Arr (W5.setCell ⟨V, 14, none⟩ (.int .u32 (X14 : Nat))) .u32 (N + 1) 8 (fun _ => 0)) := tr1.out.far (by omega) _ _
          have tm2 : Hid (Arr (W5.setCell ⟨V, 14, none⟩ (.int .u32 (X14 : Nat))) .u32 M 16 (wordAt z)) := tm1.out.far (by omega) _ _
          have hB2 : Below N w (W5.setCell ⟨V, 14, none⟩ (.int .u32 (X14 : Nat))) := by (repeat' (first | (with_reducible first | exact Below.refl _ _ | assumption | refine Below.alloc ?_ ?_ _ | refine Below.drew ?_ | refine below_drewN ?_ _ | refine Below.setCell ?_ ?_ _ | refine below_via (by with_reducible assumption) ?_ ?_) | omega | (simp only [szs]; omega) | (simp only [szs] at *; omega)))
          clear hX12 hX13 hlo hhi hX14 x14
          go_wp2
          go_meet
          case rel => exact ⟨t2, th2, tr2, tm2, hB2⟩
      case rest =>
        clear t1' th1 tr1 tm1 hB1 c14 f14 x14 hX12 hX13 hlo hhi
        obtain ⟨tv, th, tr, tm, hB⟩ := hcut
        obtain ⟨m, hmE⟩ : ∃ m, Hid (wordAt z = m) := ⟨_, rfl⟩
        obtain ⟨v, hvE⟩ : ∃ m, Hid (Ob.six h n last = m) := ⟨_, rfl⟩
        have hs : Hid (Ob.Words32 v) := by rw [← hvE.out]; exact Ob.six_words hh'.out hn last
        have hm : Hid (Ob.Words32 m) := by rw [← hmE.out]; exact word_lt hz'.out
        have hend : Hid (Ob.press h (wordAt z) n last = fun j => h j ^^^ (Ob.rounds v m 10 j ^^^ Ob.rounds v m 10 (j + 8))) := by rw [← hmE.out, ← hvE.out]; rfl
        rw [hmE.out] at tm
        rw [hvE.out] at tv
        go_upto_region 13 with (fail)
        go_wp2
        go_loopw [13] (fun s13 wr => ∃ (r : Nat), r ≤ 10 ∧ s13 = .int .i64 (r : Nat) ∧ Hid (Arr wr .u32 V 16 (Ob.rounds v m r)) ∧ Hid (Arr wr .u32 N 8 h) ∧ Hid (Arr wr .u32 (N + 1) 8 (fun _ => 0)) ∧ Hid (Arr wr .u32 M 16 m) ∧ Below N w wr) (fun s13 _ => 10 - (intOf s13).toNat)
        case atStart => exact ⟨0, by omega, rfl, tv, th, tr, tm, hB⟩
        case round =>
          clear tv th tr tm hB
          obtain ⟨r, hr, rfl, tv, th, tr, tm, hB⟩ := hrel
          have l0 := hB.size
          by_cases hlt : r < 10
          · have c3 := rrowW r hlt wr
            have r0 : (r : Int) < 10 := by omega
            have hVR := tv.out.lt
            obtain ⟨R, hR⟩ : ∃ R, Hid (wr.heap.size = R) := ⟨_, rfl⟩
            rw [hR.out] at c3 hVR
            go_upto_region 17 with (go_at_call 67; with_reducible refine c3.mono ?_; rintro e W6 ⟨rfl, ts, b6⟩)
            rw [← hR.out] at b6
            have tv0 : Hid (Arr W6 .u32 V 16 (Ob.rounds v m r)) := tv.out.below b6 tv.out.lt
            have th0 : Hid (Arr W6 .u32 N 8 h) := th.out.below b6 th.out.lt
            have tr0 : Hid (Arr W6 .u32 (N + 1) 8 (fun _ => 0)) := tr.out.below b6 tr.out.lt
            have tm0 : Hid (Arr W6 .u32 M 16 m) := tm.out.below b6 tm.out.lt
            have ts0 : Hid (Arr W6 .i64 R 16 (Ob.sig r)) := ts
            have hB0 : Below N w W6 := below_via b6 hB (by have := hN.out; omega)
            have hv0 : Hid (Ob.Words32 (Ob.rounds v m r)) := Ob.rounds_words hs.out m r
            obtain ⟨v', hv'⟩ : ∃ v', Hid (Ob.rounds v m r = v') := ⟨_, rfl⟩
            have hnext : Hid (Ob.rounds v m (r + 1) = Ob.roundN v' m r 8) := by rw [← hv'.out]; rfl
            rw [hv'.out] at tv0 hv0
            obtain ⟨V0, hV0⟩ : ∃ V, Hid (v' = V) := ⟨_, rfl⟩
            have hs0 : Hid (Ob.roundN v' m r 0 = V0) := hV0
            rw [hV0.out] at tv0 hv0
            clear tv th tr tm hB c3 b6 ts l0
            -- mixing 0
            obtain ⟨e0, he0⟩ : ∃ e, Hid (Ob.sig r 0 = e) := ⟨_, rfl⟩
            obtain ⟨f0, hf0⟩ : ∃ e, Hid (Ob.sig r 1 = e) := ⟨_, rfl⟩
            have le0 : e0 < 16 := by rw [← he0.out]; exact Ob.sig_lt hlt (by decide)
            have lf0 : f0 < 16 := by rw [← hf0.out]; exact Ob.sig_lt hlt (by decide)
            obtain ⟨V1, hV1⟩ : ∃ V, Hid (Ob.mixN V0 0 4 8 12 (m e0) (m f0) = V) := ⟨_, rfl⟩
            have hv1 : Hid (Ob.Words32 V1) := by rw [← hV1.out]; exact Ob.mixN_words hv0.out _ _ _ _ _ _
            have hs1 : Hid (Ob.roundN v' m r 1 = V1) := by
              show _ = _
              rw [← hV1.out, ← hs0.out, ← he0.out, ← hf0.out]
              rfl
            have cm : ∀ w, Calls Tryd.prog 68 #[.agg (arrL .u32 V0 16).toArray, .int .i64 0, .int .i64 4, .int .i64 8, .int .i64 12, .int .u32 (m e0 : Nat), .int .u32 (m f0 : Nat)] w fun e' w' => e' = .returned (.agg (arrL .u32 V1 16).toArray) ∧ Below w.heap.size w w' := fun w => by
              have q := rmix_core V0 hv0.out 0 4 8 12 (m e0) (m f0) (by decide) (by decide) (by decide) (by decide) (hm.out _) (hm.out _) w
              rw [hV1.out] at q
              exact q
            have se : W6.drew.cell? ⟨R, 0, none⟩ = some (.int .i64 (e0 : Nat)) := by rw [← he0.out]; exact ts0.out.drew.c 0 (by decide)
            have sf : W6.drew.cell? ⟨R, 1, none⟩ = some (.int .i64 (f0 : Nat)) := by rw [← hf0.out]; exact ts0.out.drew.c 1 (by decide)
            have ie : (e0 : Int) < 16 := by omega
            have je : (0 : Int) ≤ (e0 : Int) := by omega
            have ig : (f0 : Int) < 16 := by omega
            have jg : (0 : Int) ≤ (f0 : Int) := by omega
            go_upto_region 17 with (fail)
            refine wp_region_noPanic ?_
            refine region_lastly (S := (fun w' => Arr w' .u32 V 16 V0 ∧ w'.cell? ⟨R, 0, none⟩ = some (.int .i64 (e0 : Nat)) ∧ w'.cell? ⟨R, 1, none⟩ = some (.int .i64 (f0 : Nat)) ∧ w'.cell? ⟨M, e0, none⟩ = some (.int .u32 (m e0 : Nat)) ∧ w'.cell? ⟨M, f0, none⟩ = some (.int .u32 (m f0 : Nat)))) [14] (by kernel_rfl) (by ((try dsimp only); (first | exact ⟨tv0.out.drew, se, sf, tm0.out.drew.c _ le0, tm0.out.drew.c _ lf0⟩ | exact ⟨tv0.out.drew.below b_cm tv0.out.drew.lt, by rw [(bcell b_cm).1 R _ ts0.out.drew.lt]; exact se, by rw [(bcell b_cm).1 R _ ts0.out.drew.lt]; exact sf, (tm0.out.drew.below b_cm tm0.out.drew.lt).c _ le0, (tm0.out.drew.below b_cm tm0.out.drew.lt).c _ lf0⟩))) (fun hHeld => ?_)
            refine anyZ_take (i := 0) (oi := ?oi_1) (v := .agg (arrL .u32 V0 16).toArray) ?hi_1 ?hz_1 ?hs_1 ?hf_1 ?hr_1 ?hQ_1 ?hy_1 ?hS_1 ?hrest_1
            case hi_1 => (simp only [List.getElem?_toArray, List.getElem?_cons_succ, List.getElem?_cons_zero]; exact rfl)
            case hz_1 => kernel_rfl
            case hs_1 => kernel_rfl
            case hf_1 => kernel_rfl
            case hr_1 => kernel_rfl
            case hQ_1 => exact fun _ _ _ h => h
            case hS_1 => assumption
            case hy_1 => (refine yieldsArr (k := .u32) (n := 16) (v := V0) ?_ 81 (.tmp 11) ?_ V ?_ ?_ Tryd.underlying81 ?_ ?_; (focus rfl); (focus rfl); (focus rfl); (focus exact fun w h => And.left h); (focus rfl); kernel_rfl)
            try simp only [Act.put, List.setIfInBounds_toArray, List.set_cons_zero, List.set_cons_succ]
            refine anyZ_free (i := 1) (oi := ?oi_2) (v := ?v_2) ?hi_2 ?hs_2 ?hf_2 ?hr_2 ?hQ_2 (Or.inl ⟨?hw_2, ?hy_2⟩) ?hrest_2
            case hi_2 => (simp only [List.getElem?_toArray, List.getElem?_cons_succ, List.getElem?_cons_zero]; exact rfl)
            case hs_2 => kernel_rfl
            case hf_2 => kernel_rfl
            case hr_2 => kernel_rfl
            case hQ_2 => exact fun _ _ _ h => h
            case hw_2 => rfl
            case hy_2 => (intro w _; go_simp; try with_reducible rfl)
            try simp only [Act.put, List.setIfInBounds_toArray, List.set_cons_zero, List.set_cons_succ]
            refine anyZ_free (i := 2) (oi := ?oi_3) (v := ?v_3) ?hi_3 ?hs_3 ?hf_3 ?hr_3 ?hQ_3 (Or.inl ⟨?hw_3, ?hy_3⟩) ?hrest_3
            case hi_3 => (simp only [List.getElem?_toArray, List.getElem?_cons_succ, List.getElem?_cons_zero]; exact rfl)
            case hs_3 => kernel_rfl
            case hf_3 => kernel_rfl
            case hr_3 => kernel_rfl
            case hQ_3 => exact fun _ _ _ h => h
            case hw_3 => rfl
            case hy_3 => (intro w _; go_simp; try with_reducible rfl)
            try simp only [Act.put, List.setIfInBounds_toArray, List.set_cons_zero, List.set_cons_succ]
            refine anyZ_free (i := 3) (oi := ?oi_4) (v := ?v_4) ?hi_4 ?hs_4 ?hf_4 ?hr_4 ?hQ_4 (Or.inl ⟨?hw_4, ?hy_4⟩) ?hrest_4
            case hi_4 => (simp only [List.getElem?_toArray, List.getElem?_cons_succ, List.getElem?_cons_zero]; exact rfl)
            case hs_4 => kernel_rfl
            case hf_4 => kernel_rfl
            case hr_4 => kernel_rfl
            case hQ_4 => exact fun _ _ _ h => h
            case hw_4 => rfl
            case hy_4 => (intro w _; go_simp; try with_reducible rfl)
            try simp only [Act.put, List.setIfInBounds_toArray, List.set_cons_zero, List.set_cons_succ]
            refine anyZ_take (i := 4) (oi := ?oi_5) (v := ?v_5) ?hi_5 ?hz_5 ?hs_5 ?hf_5 ?hr_5 ?hQ_5 (Or.inl ⟨?hw_5, ?hy_5⟩) ?hS_5 ?hrest_5
            case hi_5 => (simp only [List.getElem?_toArray, List.getElem?_cons_succ, List.getElem?_cons_zero]; exact rfl)
            case hz_5 => kernel_rfl
            case hs_5 => kernel_rfl
            case hf_5 => kernel_rfl
            case hr_5 => kernel_rfl
            case hQ_5 => exact fun _ _ _ h => h
            case hw_5 => rfl
            case hS_5 => assumption
            case hy_5 => (intro w hSw; (try dsimp only at hSw); go_simp; try with_reducible rfl)
            try simp only [Act.put, List.setIfInBounds_toArray, List.set_cons_zero, List.set_cons_succ]
            refine anyZ_free (i := 5) (oi := ?oi_6) (v := ?v_6) ?hi_6 ?hs_6 ?hf_6 ?hr_6 ?hQ_6 (Or.inl ⟨?hw_6, ?hy_6⟩) ?hrest_6
            case hi_6 => (simp only [List.getElem?_toArray, List.getElem?_cons_succ, List.getElem?_cons_zero]; exact rfl)
            case hs_6 => kernel_rfl
            case hf_6 => kernel_rfl
            case hr_6 => kernel_rfl
            case hQ_6 => exact fun _ _ _ h => h
            case hw_6 => rfl
            case hy_6 => (intro w _; go_simp; try with_reducible rfl)
            try simp only [Act.put, List.setIfInBounds_toArray, List.set_cons_zero, List.set_cons_succ]
            refine anyZ_take (i := 6) (oi := ?oi_7) (v := ?v_7) ?hi_7 ?hz_7 ?hs_7 ?hf_7 ?hr_7 ?hQ_7 (Or.inl ⟨?hw_7, ?hy_7⟩) ?hS_7 ?hrest_7
            case hi_7 => (simp only [List.getElem?_toArray, List.getElem?_cons_succ, List.getElem?_cons_zero]; exact rfl)
            case hz_7 => kernel_rfl
            case hs_7 => kernel_rfl
            case hf_7 => kernel_rfl
            case hr_7 => kernel_rfl
            case hQ_7 => exact fun _ _ _ h => h
            case hw_7 => rfl
            case hS_7 => assumption
            case hy_7 => (intro w hSw; (try dsimp only at hSw); go_simp; try with_reducible rfl)
            try simp only [Act.put, List.setIfInBounds_toArray, List.set_cons_zero, List.set_cons_succ]
            refine anyZ_free (i := 7) (oi := ?oi_8) (v := ?v_8) ?hi_8 ?hs_8 ?hf_8 ?hr_8 ?hQ_8 (Or.inl ⟨?hw_8, ?hy_8⟩) ?hrest_8
            case hi_8 => (simp only [List.getElem?_toArray, List.getElem?_cons_succ, List.getElem?_cons_zero]; exact rfl)
            case hs_8 => kernel_rfl
            case hf_8 => kernel_rfl
            case hr_8 => kernel_rfl
            case hQ_8 => exact fun _ _ _ h => h
            case hw_8 => rfl
            case hy_8 => (intro w _; go_simp; try with_reducible rfl)
            try simp only [Act.put, List.setIfInBounds_toArray, List.set_cons_zero, List.set_cons_succ]
            refine anyZ_free (i := 8) (oi := ?oi_9) (v := ?v_9) ?hi_9 ?hs_9 ?hf_9 ?hr_9 ?hQ_9 (Or.inl ⟨?hw_9, ?hy_9⟩) ?hrest_9
            case hi_9 => (simp only [List.getElem?_toArray, List.getElem?_cons_succ, List.getElem?_cons_zero]; exact rfl)
            case hs_9 => kernel_rfl
            case hf_9 => kernel_rfl
            case hr_9 => kernel_rfl
            case hQ_9 => exact fun _ _ _ h => h
            case hw_9 => rfl
            case hy_9 => (intro w _; go_simp; try with_reducible rfl)
            try simp only [Act.put, List.setIfInBounds_toArray, List.set_cons_zero, List.set_cons_succ]
            refine anyZ_free (i := 9) (oi := ?oi_10) (v := ?v_10) ?hi_10 ?hs_10 ?hf_10 ?hr_10 ?hQ_10 (Or.inl ⟨?hw_10, ?hy_10⟩) ?hrest_10
            case hi_10 => (simp only [List.getElem?_toArray, List.getElem?_cons_succ, List.getElem?_cons_zero]; exact rfl)
            case hs_10 => kernel_rfl
            case hf_10 => kernel_rfl
            case hr_10 => kernel_rfl
            case hQ_10 => exact fun _ _ _ h => h
            case hw_10 => rfl
            case hy_10 => (intro w _; go_simp; try with_reducible rfl)
            try simp only [Act.put, List.setIfInBounds_toArray, List.set_cons_zero, List.set_cons_succ]
            refine anyZ_take (i := 10) (oi := ?oi_11) (v := ?v_11) ?hi_11 ?hz_11 ?hs_11 ?hf_11 ?hr_11 ?hQ_11 (Or.inl ⟨?hw_11, ?hy_11⟩) ?hS_11 ?hrest_11
            case hi_11 => (simp only [List.getElem?_toArray, List.getElem?_cons_succ, List.getElem?_cons_zero]; exact rfl)
            case hz_11 => kernel_rfl
            case hs_11 => kernel_rfl
            case hf_11 => kernel_rfl
            case hr_11 => kernel_rfl
            case hQ_11 => exact fun _ _ _ h => h
            case hw_11 => rfl
            case hS_11 => assumption
            case hy_11 => (intro w hSw; (try dsimp only at hSw); go_simp; try with_reducible rfl)
            try simp only [Act.put, List.setIfInBounds_toArray, List.set_cons_zero, List.set_cons_succ]
            refine anyZ_free (i := 11) (oi := ?oi_12) (v := ?v_12) ?hi_12 ?hs_12 ?hf_12 ?hr_12 ?hQ_12 (Or.inl ⟨?hw_12, ?hy_12⟩) ?hrest_12
            case hi_12 => (simp only [List.getElem?_toArray, List.getElem?_cons_succ, List.getElem?_cons_zero]; exact rfl)
            case hs_12 => kernel_rfl
            case hf_12 => kernel_rfl
            case hr_12 => kernel_rfl
            case hQ_12 => exact fun _ _ _ h => h
            case hw_12 => rfl
            case hy_12 => (intro w _; go_simp; try with_reducible rfl)
            try simp only [Act.put, List.setIfInBounds_toArray, List.set_cons_zero, List.set_cons_succ]
            refine anyZ_take (i := 12) (oi := ?oi_13) (v := ?v_13) ?hi_13 ?hz_13 ?hs_13 ?hf_13 ?hr_13 ?hQ_13 (Or.inl ⟨?hw_13, ?hy_13⟩) ?hS_13 ?hrest_13
            case hi_13 => (simp only [List.getElem?_toArray, List.getElem?_cons_succ, List.getElem?_cons_zero]; exact rfl)
            case hz_13 => kernel_rfl
            case hs_13 => kernel_rfl
            case hf_13 => kernel_rfl
            case hr_13 => kernel_rfl
            case hQ_13 => exact fun _ _ _ h => h
            case hw_13 => rfl
            case hS_13 => assumption
            case hy_13 => (intro w hSw; (try dsimp only at hSw); go_simp; try with_reducible rfl)
            try simp only [Act.put, List.setIfInBounds_toArray, List.set_cons_zero, List.set_cons_succ]
            refine anyZ_ready (rs := [13]) (by kernel_rfl) (by simp) ?_
            refine (AllZ.cons (o := ?o_14) ?ho_14 (fun K hK => ?st_14) AllZ.nil)
            case ho_14 => (simp only [List.getElem?_toArray, List.getElem?_cons_succ, List.getElem?_cons_zero]; exact rfl)
            case st_14 =>
              go_simp
              (first | (go_at_call 68; first | (with_reducible refine (cm _).mono ?_; rintro e w_cm ⟨rfl, b_cm⟩; have z_cm := b_cm.size; (try simp only [szs] at z_cm))))
              refine hK.out _ _ (by ((try dsimp only); (first | exact ⟨tv0.out.drew, se, sf, tm0.out.drew.c _ le0, tm0.out.drew.c _ lf0⟩ | exact ⟨tv0.out.drew.below b_cm tv0.out.drew.lt, by rw [(bcell b_cm).1 R _ ts0.out.drew.lt]; exact se, by rw [(bcell b_cm).1 R _ ts0.out.drew.lt]; exact sf, (tm0.out.drew.below b_cm tm0.out.drew.lt).c _ le0, (tm0.out.drew.below b_cm tm0.out.drew.lt).c _ lf0⟩))) (fun hHeld => ?_)
              clear hK K
              try simp only [Act.put, List.setIfInBounds_toArray, List.set_cons_zero, List.set_cons_succ]
              refine anyZ_ready (rs := [14]) (by kernel_rfl) (by simp) ?_
              refine (AllZ.last (o := ?o_15) ?ho_15 (by rfl) (fun K hK => ?st_15) AllZ.nil)
              case ho_15 => (simp only [List.getElem?_toArray, List.getElem?_cons_succ, List.getElem?_cons_zero]; exact rfl)
              case st_15 =>
                rw [if_pos (by rfl)]; refine wp_storeArr 81 _ _ rfl V rfl V1 rfl (tv0.out.drew.below b_cm tv0.out.drew.lt) (by kernel_rfl) ?_; intro W7 hWn tv1 zWn
                refine hK.out _ _ ?_
                clear hK K
                try simp only [Act.put, List.setIfInBounds_toArray, List.set_cons_zero, List.set_cons_succ]
                refine anyZ_done (by kernel_rfl) ?_ _
                refine NoPanic.normal ?_
                have th1 : Hid (Arr W7 .u32 N 8 h) := by rw [hWn.out]; exact (th0.out.drew.below b_cm th0.out.drew.lt).farCells (by omega) _ _
                have tr1 : Hid (Arr W7 .u32 (N + 1) 8 (fun _ => 0)) := by rw [hWn.out]; exact (tr0.out.drew.below b_cm tr0.out.drew.lt).farCells (by omega) _ _
                have tm1 : Hid (Arr W7 .u32 M 16 m) := by rw [hWn.out]; exact (tm0.out.drew.below b_cm tm0.out.drew.lt).farCells (by omega) _ _
                have ts1 : Hid (Arr W7 .i64 R 16 (Ob.sig r)) := by rw [hWn.out]; exact (ts0.out.drew.below b_cm ts0.out.drew.lt).farCells (by omega) _ _
                have hB1 : Below N w W7 := by rw [hWn.out]; exact below_setCells (below_via b_cm hB0.drew (by have := th0.out.drew.lt; omega)) (by omega) _ _
                clear hHeld hWn zWn b_cm z_cm cm se sf ie je ig jg tv0 th0 tr0 tm0 ts0 hB0 hV1 hv0 hs0 he0 hf0 le0 lf0
                -- mixing 1
                obtain ⟨e1, he1⟩ : ∃ e, Hid (Ob.sig r 2 = e) := ⟨_, rfl⟩
                obtain ⟨f1, hf1⟩ : ∃ e, Hid (Ob.sig r 3 = e) := ⟨_, rfl⟩
                have le1 : e1 < 16 := by rw [← he1.out]; exact Ob.sig_lt hlt (by decide)
                have lf1 : f1 < 16 := by rw [← hf1.out]; exact Ob.sig_lt hlt (by decide)
                obtain ⟨V2, hV2⟩ : ∃ V, Hid (Ob.mixN V1 1 5 9 13 (m e1) (m f1) = V) := ⟨_, rfl⟩
                have hv2 : Hid (Ob.Words32 V2) := by rw [← hV2.out]; exact Ob.mixN_words hv1.out _ _ _ _ _ _
                have hs2 : Hid (Ob.roundN v' m r 2 = V2) := by
                  show _ = _
                  rw [← hV2.out, ← hs1.out, ← he1.out, ← hf1.out]
                  rfl
                have cm : ∀ w, Calls Tryd.prog 68 #[.agg (arrL .u32 V1 16).toArray, .int .i64 1, .int .i64 5, .int .i64 9, .int .i64 13, .int .u32 (m e1 : Nat), .int .u32 (m f1 : Nat)] w fun e' w' => e' = .returned (.agg (arrL .u32 V2 16).toArray) ∧ Below w.heap.size w w' := fun w => by
                  have q := rmix_core V1 hv1.out 1 5 9 13 (m e1) (m f1) (by decide) (by decide) (by decide) (by decide) (hm.out _) (hm.out _) w
                  rw [hV2.out] at q
                  exact q
                have se : W7.drew.cell? ⟨R, 2, none⟩ = some (.int .i64 (e1 : Nat)) := by rw [← he1.out]; exact ts1.out.drew.c 2 (by decide)
                have sf : W7.drew.cell? ⟨R, 3, none⟩ = some (.int .i64 (f1 : Nat)) := by rw [← hf1.out]; exact ts1.out.drew.c 3 (by decide)
                have ie : (e1 : Int) < 16 := by omega
                have je : (0 : Int) ≤ (e1 : Int) := by omega
                have ig : (f1 : Int) < 16 := by omega
                have jg : (0 : Int) ≤ (f1 : Int) := by omega
                go_upto_region 18 with (fail)
                refine wp_region_noPanic ?_
                refine region_lastly (S := (fun w' => Arr w' .u32 V 16 V1 ∧ w'.cell? ⟨R, 2, none⟩ = some (.int .i64 (e1 : Nat)) ∧ w'.cell? ⟨R, 3, none⟩ = some (.int .i64 (f1 : Nat)) ∧ w'.cell? ⟨M, e1, none⟩ = some (.int .u32 (m e1 : Nat)) ∧ w'.cell? ⟨M, f1, none⟩ = some (.int .u32 (m f1 : Nat)))) [14] (by kernel_rfl) (by ((try dsimp only); (first | exact ⟨tv1.out.drew, se, sf, tm1.out.drew.c _ le1, tm1.out.drew.c _ lf1⟩ | exact ⟨tv1.out.drew.below b_cm tv1.out.drew.lt, by rw [(bcell b_cm).1 R _ ts1.out.drew.lt]; exact se, by rw [(bcell b_cm).1 R _ ts1.out.drew.lt]; exact sf, (tm1.out.drew.below b_cm tm1.out.drew.lt).c _ le1, (tm1.out.drew.below b_cm tm1.out.drew.lt).c _ lf1⟩))) (fun hHeld => ?_)
                refine anyZ_take (i := 0) (oi := ?oi_16) (v := .agg (arrL .u32 V1 16).toArray) ?hi_16 ?hz_16 ?hs_16 ?hf_16 ?hr_16 ?hQ_16 ?hy_16 ?hS_16 ?hrest_16
                case hi_16 => (simp only [List.getElem?_toArray, List.getElem?_cons_succ, List.getElem?_cons_zero]; exact rfl)
                case hz_16 => kernel_rfl
                case hs_16 => kernel_rfl
                case hf_16 => kernel_rfl
                case hr_16 => kernel_rfl
                case hQ_16 => exact fun _ _ _ h => h
                case hS_16 => assumption
                case hy_16 => (refine yieldsArr (k := .u32) (n := 16) (v := V1) ?_ 81 (.tmp 11) ?_ V ?_ ?_ Tryd.underlying81 ?_ ?_; (focus rfl); (focus rfl); (focus rfl); (focus exact fun w h => And.left h); (focus rfl); kernel_rfl)
                try simp only [Act.put, List.setIfInBounds_toArray, List.set_cons_zero, List.set_cons_succ]
                refine anyZ_free (i := 1) (oi := ?oi_17) (v := ?v_17) ?hi_17 ?hs_17 ?hf_17 ?hr_17 ?hQ_17 (Or.inl ⟨?hw_17, ?hy_17⟩) ?hrest_17
                case hi_17 => (simp only [List.getElem?_toArray, List.getElem?_cons_succ, List.getElem?_cons_zero]; exact rfl)
                case hs_17 => kernel_rfl
                case hf_17 => kernel_rfl
                case hr_17 => kernel_rfl
                case hQ_17 => exact fun _ _ _ h => h
                case hw_17 => rfl
                case hy_17 => (intro w _; go_simp; try with_reducible rfl)
                try simp only [Act.put, List.setIfInBounds_toArray, List.set_cons_zero, List.set_cons_succ]
                refine anyZ_free (i := 2) (oi := ?oi_18) (v := ?v_18) ?hi_18 ?hs_18 ?hf_18 ?hr_18 ?hQ_18 (Or.inl ⟨?hw_18, ?hy_18⟩) ?hrest_18
                case hi_18 => (simp only [List.getElem?_toArray, List.getElem?_cons_succ, List.getElem?_cons_zero]; exact rfl)
                case hs_18 => kernel_rfl
                case hf_18 => kernel_rfl
                case hr_18 => kernel_rfl
                case hQ_18 => exact fun _ _ _ h => h
                case hw_18 => rfl
                case hy_18 => (intro w _; go_simp; try with_reducible rfl)
                try simp only [Act.put, List.setIfInBounds_toArray, List.set_cons_zero, List.set_cons_succ]
                refine anyZ_free (i := 3) (oi := ?oi_19) (v := ?v_19) ?hi_19 ?hs_19 ?hf_19 ?hr_19 ?hQ_19 (Or.inl ⟨?hw_19, ?hy_19⟩) ?hrest_19
                case hi_19 => (simp only [List.getElem?_toArray, List.getElem?_cons_succ, List.getElem?_cons_zero]; exact rfl)
                case hs_19 => kernel_rfl
                case hf_19 => kernel_rfl
                case hr_19 => kernel_rfl
                case hQ_19 => exact fun _ _ _ h => h
                case hw_19 => rfl
                case hy_19 => (intro w _; go_simp; try with_reducible rfl)
                try simp only [Act.put, List.setIfInBounds_toArray, List.set_cons_zero, List.set_cons_succ]
                refine anyZ_take (i := 4) (oi := ?oi_20) (v := ?v_20) ?hi_20 ?hz_20 ?hs_20 ?hf_20 ?hr_20 ?hQ_20 (Or.inl ⟨?hw_20, ?hy_20⟩) ?hS_20 ?hrest_20
                case hi_20 => (simp only [List.getElem?_toArray, List.getElem?_cons_succ, List.getElem?_cons_zero]; exact rfl)
                case hz_20 => kernel_rfl
                case hs_20 => kernel_rfl
                case hf_20 => kernel_rfl
                case hr_20 => kernel_rfl
                case hQ_20 => exact fun _ _ _ h => h
                case hw_20 => rfl
                case hS_20 => assumption
                case hy_20 => (intro w hSw; (try dsimp only at hSw); go_simp; try with_reducible rfl)
                try simp only [Act.put, List.setIfInBounds_toArray, List.set_cons_zero, List.set_cons_succ]
                refine anyZ_free (i := 5) (oi := ?oi_21) (v := ?v_21) ?hi_21 ?hs_21 ?hf_21 ?hr_21 ?hQ_21 (Or.inl ⟨?hw_21, ?hy_21⟩) ?hrest_21
                case hi_21 => (simp only [List.getElem?_toArray, List.getElem?_cons_succ, List.getElem?_cons_zero]; exact rfl)
                case hs_21 => kernel_rfl
                case hf_21 => kernel_rfl
                case hr_21 => kernel_rfl
                case hQ_21 => exact fun _ _ _ h => h
                case hw_21 => rfl
                case hy_21 => (intro w _; go_simp; try with_reducible rfl)
                try simp only [Act.put, List.setIfInBounds_toArray, List.set_cons_zero, List.set_cons_succ]
                refine anyZ_take (i := 6) (oi := ?oi_22) (v := ?v_22) ?hi_22 ?hz_22 ?hs_22 ?hf_22 ?hr_22 ?hQ_22 (Or.inl ⟨?hw_22, ?hy_22⟩) ?hS_22 ?hrest_22
                case hi_22 => (simp only [List.getElem?_toArray, List.getElem?_cons_succ, List.getElem?_cons_zero]; exact rfl)
                case hz_22 => kernel_rfl
                case hs_22 => kernel_rfl
                case hf_22 => kernel_rfl
                case hr_22 => kernel_rfl
                case hQ_22 => exact fun _ _ _ h => h
                case hw_22 => rfl
                case hS_22 => assumption
                case hy_22 => (intro w hSw; (try dsimp only at hSw); go_simp; try with_reducible rfl)
                try simp only [Act.put, List.setIfInBounds_toArray, List.set_cons_zero, List.set_cons_succ]
                refine anyZ_free (i := 7) (oi := ?oi_23) (v := ?v_23) ?hi_23 ?hs_23 ?hf_23 ?hr_23 ?hQ_23 (Or.inl ⟨?hw_23, ?hy_23⟩) ?hrest_23
                case hi_23 => (simp only [List.getElem?_toArray, List.getElem?_cons_succ, List.getElem?_cons_zero]; exact rfl)
                case hs_23 => kernel_rfl
                case hf_23 => kernel_rfl
                case hr_23 => kernel_rfl
                case hQ_23 => exact fun _ _ _ h => h
                case hw_23 => rfl
                case hy_23 => (intro w _; go_simp; try with_reducible rfl)
                try simp only [Act.put, List.setIfInBounds_toArray, List.set_cons_zero, List.set_cons_succ]
                refine anyZ_free (i := 8) (oi := ?oi_24) (v := ?v_24) ?hi_24 ?hs_24 ?hf_24 ?hr_24 ?hQ_24 (Or.inl ⟨?hw_24, ?hy_24⟩) ?hrest_24
                case hi_24 => (simp only [List.getElem?_toArray, List.getElem?_cons_succ, List.getElem?_cons_zero]; exact rfl)
                case hs_24 => kernel_rfl
                case hf_24 => kernel_rfl
                case hr_24 => kernel_rfl
                case hQ_24 => exact fun _ _ _ h => h
                case hw_24 => rfl
                case hy_24 => (intro w _; go_simp; try with_reducible rfl)
                try simp only [Act.put, List.setIfInBounds_toArray, List.set_cons_zero, List.set_cons_succ]
                refine anyZ_free (i := 9) (oi := ?oi_25) (v := ?v_25) ?hi_25 ?hs_25 ?hf_25 ?hr_25 ?hQ_25 (Or.inl ⟨?hw_25, ?hy_25⟩) ?hrest_25
                case hi_25 => (simp only [List.getElem?_toArray, List.getElem?_cons_succ, List.getElem?_cons_zero]; exact rfl)
                case hs_25 => kernel_rfl
                case hf_25 => kernel_rfl
                case hr_25 => kernel_rfl
                case hQ_25 => exact fun _ _ _ h => h
                case hw_25 => rfl
                case hy_25 => (intro w _; go_simp; try with_reducible rfl)
                try simp only [Act.put, List.setIfInBounds_toArray, List.set_cons_zero, List.set_cons_succ]
                refine anyZ_take (i := 10) (oi := ?oi_26) (v := ?v_26) ?hi_26 ?hz_26 ?hs_26 ?hf_26 ?hr_26 ?hQ_26 (Or.inl ⟨?hw_26, ?hy_26⟩) ?hS_26 ?hrest_26
                case hi_26 => (simp only [List.getElem?_toArray, List.getElem?_cons_succ, List.getElem?_cons_zero]; exact rfl)
                case hz_26 => kernel_rfl
                case hs_26 => kernel_rfl
                case hf_26 => kernel_rfl
                case hr_26 => kernel_rfl
                case hQ_26 => exact fun _ _ _ h => h
                case hw_26 => rfl
                case hS_26 => assumption
                case hy_26 => (intro w hSw; (try dsimp only at hSw); go_simp; try with_reducible rfl)
                try simp only [Act.put, List.setIfInBounds_toArray, List.set_cons_zero, List.set_cons_succ]
                refine anyZ_free (i := 11) (oi := ?oi_27) (v := ?v_27) ?hi_27 ?hs_27 ?hf_27 ?hr_27 ?hQ_27 (Or.inl ⟨?hw_27, ?hy_27⟩) ?hrest_27
                case hi_27 => (simp only [List.getElem?_toArray, List.getElem?_cons_succ, List.getElem?_cons_zero]; exact rfl)
                case hs_27 => kernel_rfl
                case hf_27 => kernel_rfl
                case hr_27 => kernel_rfl
                case hQ_27 => exact fun _ _ _ h => h
                case hw_27 => rfl
                case hy_27 => (intro w _; go_simp; try with_reducible rfl)
                try simp only [Act.put, List.setIfInBounds_toArray, List.set_cons_zero, List.set_cons_succ]
                refine anyZ_take (i := 12) (oi := ?oi_28) (v := ?v_28) ?hi_28 ?hz_28 ?hs_28 ?hf_28 ?hr_28 ?hQ_28 (Or.inl ⟨?hw_28, ?hy_28⟩) ?hS_28 ?hrest_28
                case hi_28 => (simp only [List.getElem?_toArray, List.getElem?_cons_succ, List.getElem?_cons_zero]; exact rfl)
                case hz_28 => kernel_rfl
                case hs_28 => kernel_rfl
                case hf_28 => kernel_rfl
                case hr_28 => kernel_rfl
                case hQ_28 => exact fun _ _ _ h => h
                case hw_28 => rfl
                case hS_28 => assumption
                case hy_28 => (intro w hSw; (try dsimp only at hSw); go_simp; try with_reducible rfl)
                try simp only [Act.put, List.setIfInBounds_toArray, List.set_cons_zero, List.set_cons_succ]
                refine anyZ_ready (rs := [13]) (by kernel_rfl) (by simp) ?_
                refine (AllZ.cons (o := ?o_29) ?ho_29 (fun K hK => ?st_29) AllZ.nil)
                case ho_29 => (simp only [List.getElem?_toArray, List.getElem?_cons_succ, List.getElem?_cons_zero]; exact rfl)
                case st_29 =>
                  go_simp
                  (first | (go_at_call 68; first | (with_reducible refine (cm _).mono ?_; rintro e w_cm ⟨rfl, b_cm⟩; have z_cm := b_cm.size; (try simp only [szs] at z_cm))))
                  refine hK.out _ _ (by ((try dsimp only); (first | exact ⟨tv1.out.drew, se, sf, tm1.out.drew.c _ le1, tm1.out.drew.c _ lf1⟩ | exact ⟨tv1.out.drew.below b_cm tv1.out.drew.lt, by rw [(bcell b_cm).1 R _ ts1.out.drew.lt]; exact se, by rw [(bcell b_cm).1 R _ ts1.out.drew.lt]; exact sf, (tm1.out.drew.below b_cm tm1.out.drew.lt).c _ le1, (tm1.out.drew.below b_cm tm1.out.drew.lt).c _ lf1⟩))) (fun hHeld => ?_)
                  clear hK K
                  try simp only [Act.put, List.setIfInBounds_toArray, List.set_cons_zero, List.set_cons_succ]
                  refine anyZ_ready (rs := [14]) (by kernel_rfl) (by simp) ?_
                  refine (AllZ.last (o := ?o_30) ?ho_30 (by rfl) (fun K hK => ?st_30) AllZ.nil)
                  case ho_30 => (simp only [List.getElem?_toArray, List.getElem?_cons_succ, List.getElem?_cons_zero]; exact rfl)
                  case st_30 =>
                    rw [if_pos (by rfl)]; refine wp_storeArr 81 _ _ rfl V rfl V2 rfl (tv1.out.drew.below b_cm tv1.out.drew.lt) (by kernel_rfl) ?_; intro W8 hWn tv2 zWn
                    refine hK.out _ _ ?_
                    clear hK K
                    try simp only [Act.put, List.setIfInBounds_toArray, List.set_cons_zero, List.set_cons_succ]
                    refine anyZ_done (by kernel_rfl) ?_ _
                    refine NoPanic.normal ?_
                    have th2 : Hid (Arr W8 .u32 N 8 h) := by rw [hWn.out]; exact (th1.out.drew.below b_cm th1.out.drew.lt).farCells (by omega) _ _
                    have tr2 : Hid (Arr W8 .u32 (N + 1) 8 (fun _ => 0)) := by rw [hWn.out]; exact (tr1.out.drew.below b_cm tr1.out.drew.lt).farCells (by omega) _ _
                    have tm2 : Hid (Arr W8 .u32 M 16 m) := by rw [hWn.out]; exact (tm1.out.drew.below b_cm tm1.out.drew.lt).farCells (by omega) _ _
                    have ts2 : Hid (Arr W8 .i64 R 16 (Ob.sig r)) := by rw [hWn.out]; exact (ts1.out.drew.below b_cm ts1.out.drew.lt).farCells (by omega) _ _
                    have hB2 : Below N w W8 := by rw [hWn.out]; exact below_setCells (below_via b_cm hB1.drew (by have := th1.out.drew.lt; omega)) (by omega) _ _
                    clear hHeld hWn zWn b_cm z_cm cm se sf ie je ig jg tv1 th1 tr1 tm1 ts1 hB1 hV2 hv1 hs1 he1 hf1 le1 lf1
                    -- mixing 2
                    obtain ⟨e2, he2⟩ : ∃ e, Hid (Ob.sig r 4 = e) := ⟨_, rfl⟩
                    obtain ⟨f2, hf2⟩ : ∃ e, Hid (Ob.sig r 5 = e) := ⟨_, rfl⟩
                    have le2 : e2 < 16 := by rw [← he2.out]; exact Ob.sig_lt hlt (by decide)
                    have lf2 : f2 < 16 := by rw [← hf2.out]; exact Ob.sig_lt hlt (by decide)
                    obtain ⟨V3, hV3⟩ : ∃ V, Hid (Ob.mixN V2 2 6 10 14 (m e2) (m f2) = V) := ⟨_, rfl⟩
                    have hv3 : Hid (Ob.Words32 V3) := by rw [← hV3.out]; exact Ob.mixN_words hv2.out _ _ _ _ _ _
                    have hs3 : Hid (Ob.roundN v' m r 3 = V3) := by
                      show _ = _
                      rw [← hV3.out, ← hs2.out, ← he2.out, ← hf2.out]
                      rfl
                    have cm : ∀ w, Calls Tryd.prog 68 #[.agg (arrL .u32 V2 16).toArray, .int .i64 2, .int .i64 6, .int .i64 10, .int .i64 14, .int .u32 (m e2 : Nat), .int .u32 (m f2 : Nat)] w fun e' w' => e' = .returned (.agg (arrL .u32 V3 16).toArray) ∧ Below w.heap.size w w' := fun w => by
                      have q := rmix_core V2 hv2.out 2 6 10 14 (m e2) (m f2) (by decide) (by decide) (by decide) (by decide) (hm.out _) (hm.out _) w
                      rw [hV3.out] at q
                      exact q
                    have se : W8.drew.cell? ⟨R, 4, none⟩ = some (.int .i64 (e2 : Nat)) := by rw [← he2.out]; exact ts2.out.drew.c 4 (by decide)
                    have sf : W8.drew.cell? ⟨R, 5, none⟩ = some (.int .i64 (f2 : Nat)) := by rw [← hf2.out]; exact ts2.out.drew.c 5 (by decide)
                    have ie : (e2 : Int) < 16 := by omega
                    have je : (0 : Int) ≤ (e2 : Int) := by omega
                    have ig : (f2 : Int) < 16 := by omega
                    have jg : (0 : Int) ≤ (f2 : Int) := by omega
                    go_upto_region 19 with (fail)
                    refine wp_region_noPanic ?_
                    refine region_lastly (S := (fun w' => Arr w' .u32 V 16 V2 ∧ w'.cell? ⟨R, 4, none⟩ = some (.int .i64 (e2 : Nat)) ∧ w'.cell? ⟨R, 5, none⟩ = some (.int .i64 (f2 : Nat)) ∧ w'.cell? ⟨M, e2, none⟩ = some (.int .u32 (m e2 : Nat)) ∧ w'.cell? ⟨M, f2, none⟩ = some (.int .u32 (m f2 : Nat)))) [14] (by kernel_rfl) (by ((try dsimp only); (first | exact ⟨tv2.out.drew, se, sf, tm2.out.drew.c _ le2, tm2.out.drew.c _ lf2⟩ | exact ⟨tv2.out.drew.below b_cm tv2.out.drew.lt, by rw [(bcell b_cm).1 R _ ts2.out.drew.lt]; exact se, by rw [(bcell b_cm).1 R _ ts2.out.drew.lt]; exact sf, (tm2.out.drew.below b_cm tm2.out.drew.lt).c _ le2, (tm2.out.drew.below b_cm tm2.out.drew.lt).c _ lf2⟩))) (fun hHeld => ?_)
                    refine anyZ_take (i := 0) (oi := ?oi_31) (v := .agg (arrL .u32 V2 16).toArray) ?hi_31 ?hz_31 ?hs_31 ?hf_31 ?hr_31 ?hQ_31 ?hy_31 ?hS_31 ?hrest_31
                    case hi_31 => (simp only [List.getElem?_toArray, List.getElem?_cons_succ, List.getElem?_cons_zero]; exact rfl)
                    case hz_31 => kernel_rfl
                    case hs_31 => kernel_rfl
                    case hf_31 => kernel_rfl
                    case hr_31 => kernel_rfl
                    case hQ_31 => exact fun _ _ _ h => h
                    case hS_31 => assumption
                    case hy_31 => (refine yieldsArr (k := .u32) (n := 16) (v := V2) ?_ 81 (.tmp 11) ?_ V ?_ ?_ Tryd.underlying81 ?_ ?_; (focus rfl); (focus rfl); (focus rfl); (focus exact fun w h => And.left h); (focus rfl); kernel_rfl)
                    try simp only [Act.put, List.setIfInBounds_toArray, List.set_cons_zero, List.set_cons_succ]
                    refine anyZ_free (i := 1) (oi := ?oi_32) (v := ?v_32) ?hi_32 ?hs_32 ?hf_32 ?hr_32 ?hQ_32 (Or.inl ⟨?hw_32, ?hy_32⟩) ?hrest_32
                    case hi_32 => (simp only [List.getElem?_toArray, List.getElem?_cons_succ, List.getElem?_cons_zero]; exact rfl)
                    case hs_32 => kernel_rfl
                    case hf_32 => kernel_rfl
                    case hr_32 => kernel_rfl
                    case hQ_32 => exact fun _ _ _ h => h
                    case hw_32 => rfl
                    case hy_32 => (intro w _; go_simp; try with_reducible rfl)
                    try simp only [Act.put, List.setIfInBounds_toArray, List.set_cons_zero, List.set_cons_succ]
                    refine anyZ_free (i := 2) (oi := ?oi_33) (v := ?v_33) ?hi_33 ?hs_33 ?hf_33 ?hr_33 ?hQ_33 (Or.inl ⟨?hw_33, ?hy_33⟩) ?hrest_33
                    case hi_33 => (simp only [List.getElem?_toArray, List.getElem?_cons_succ, List.getElem?_cons_zero]; exact rfl)
                    case hs_33 => kernel_rfl
                    case hf_33 => kernel_rfl
                    case hr_33 => kernel_rfl
                    case hQ_33 => exact fun _ _ _ h => h
                    case hw_33 => rfl
                    case hy_33 => (intro w _; go_simp; try with_reducible rfl)
                    try simp only [Act.put, List.setIfInBounds_toArray, List.set_cons_zero, List.set_cons_succ]
                    refine anyZ_free (i := 3) (oi := ?oi_34) (v := ?v_34) ?hi_34 ?hs_34 ?hf_34 ?hr_34 ?hQ_34 (Or.inl ⟨?hw_34, ?hy_34⟩) ?hrest_34
                    case hi_34 => (simp only [List.getElem?_toArray, List.getElem?_cons_succ, List.getElem?_cons_zero]; exact rfl)
                    case hs_34 => kernel_rfl
                    case hf_34 => kernel_rfl
                    case hr_34 => kernel_rfl
                    case hQ_34 => exact fun _ _ _ h => h
                    case hw_34 => rfl
                    case hy_34 => (intro w _; go_simp; try with_reducible rfl)
                    try simp only [Act.put, List.setIfInBounds_toArray, List.set_cons_zero, List.set_cons_succ]
                    refine anyZ_take (i := 4) (oi := ?oi_35) (v := ?v_35) ?hi_35 ?hz_35 ?hs_35 ?hf_35 ?hr_35 ?hQ_35 (Or.inl ⟨?hw_35, ?hy_35⟩) ?hS_35 ?hrest_35
                    case hi_35 => (simp only [List.getElem?_toArray, List.getElem?_cons_succ, List.getElem?_cons_zero]; exact rfl)
                    case hz_35 => kernel_rfl
                    case hs_35 => kernel_rfl
                    case hf_35 => kernel_rfl
                    case hr_35 => kernel_rfl
                    case hQ_35 => exact fun _ _ _ h => h
                    case hw_35 => rfl
                    case hS_35 => assumption
                    case hy_35 => (intro w hSw; (try dsimp only at hSw); go_simp; try with_reducible rfl)
                    try simp only [Act.put, List.setIfInBounds_toArray, List.set_cons_zero, List.set_cons_succ]
                    refine anyZ_free (i := 5) (oi := ?oi_36) (v := ?v_36) ?hi_36 ?hs_36 ?hf_36 ?hr_36 ?hQ_36 (Or.inl ⟨?hw_36, ?hy_36⟩) ?hrest_36
                    case hi_36 => (simp only [List.getElem?_toArray, List.getElem?_cons_succ, List.getElem?_cons_zero]; exact rfl)
                    case hs_36 => kernel_rfl
                    case hf_36 => kernel_rfl
                    case hr_36 => kernel_rfl
                    case hQ_36 => exact fun _ _ _ h => h
                    case hw_36 => rfl
                    case hy_36 => (intro w _; go_simp; try with_reducible rfl)
                    try simp only [Act.put, List.setIfInBounds_toArray, List.set_cons_zero, List.set_cons_succ]
                    refine anyZ_take (i := 6) (oi := ?oi_37) (v := ?v_37) ?hi_37 ?hz_37 ?hs_37 ?hf_37 ?hr_37 ?hQ_37 (Or.inl ⟨?hw_37, ?hy_37⟩) ?hS_37 ?hrest_37
                    case hi_37 => (simp only [List.getElem?_toArray, List.getElem?_cons_succ, List.getElem?_cons_zero]; exact rfl)
                    case hz_37 => kernel_rfl
                    case hs_37 => kernel_rfl
                    case hf_37 => kernel_rfl
                    case hr_37 => kernel_rfl
                    case hQ_37 => exact fun _ _ _ h => h
                    case hw_37 => rfl
                    case hS_37 => assumption
                    case hy_37 => (intro w hSw; (try dsimp only at hSw); go_simp; try with_reducible rfl)
                    try simp only [Act.put, List.setIfInBounds_toArray, List.set_cons_zero, List.set_cons_succ]
                    refine anyZ_free (i := 7) (oi := ?oi_38) (v := ?v_38) ?hi_38 ?hs_38 ?hf_38 ?hr_38 ?hQ_38 (Or.inl ⟨?hw_38, ?hy_38⟩) ?hrest_38
                    case hi_38 => (simp only [List.getElem?_toArray, List.getElem?_cons_succ, List.getElem?_cons_zero]; exact rfl)
                    case hs_38 => kernel_rfl
                    case hf_38 => kernel_rfl
                    case hr_38 => kernel_rfl
                    case hQ_38 => exact fun _ _ _ h => h
                    case hw_38 => rfl
                    case hy_38 => (intro w _; go_simp; try with_reducible rfl)
                    try simp only [Act.put, List.setIfInBounds_toArray, List.set_cons_zero, List.set_cons_succ]
                    refine anyZ_free (i := 8) (oi := ?oi_39) (v := ?v_39) ?hi_39 ?hs_39 ?hf_39 ?hr_39 ?hQ_39 (Or.inl ⟨?hw_39, ?hy_39⟩) ?hrest_39
                    case hi_39 => (simp only [List.getElem?_toArray, List.getElem?_cons_succ, List.getElem?_cons_zero]; exact rfl)
                    case hs_39 => kernel_rfl
                    case hf_39 => kernel_rfl
                    case hr_39 => kernel_rfl
                    case hQ_39 => exact fun _ _ _ h => h
                    case hw_39 => rfl
                    case hy_39 => (intro w _; go_simp; try with_reducible rfl)
                    try simp only [Act.put, List.setIfInBounds_toArray, List.set_cons_zero, List.set_cons_succ]
                    refine anyZ_free (i := 9) (oi := ?oi_40) (v := ?v_40) ?hi_40 ?hs_40 ?hf_40 ?hr_40 ?hQ_40 (Or.inl ⟨?hw_40, ?hy_40⟩) ?hrest_40
                    case hi_40 => (simp only [List.getElem?_toArray, List.getElem?_cons_succ, List.getElem?_cons_zero]; exact rfl)
                    case hs_40 => kernel_rfl
                    case hf_40 => kernel_rfl
                    case hr_40 => kernel_rfl
                    case hQ_40 => exact fun _ _ _ h => h
                    case hw_40 => rfl
                    case hy_40 => (intro w _; go_simp; try with_reducible rfl)
                    try simp only [Act.put, List.setIfInBounds_toArray, List.set_cons_zero, List.set_cons_succ]
                    refine anyZ_take (i := 10) (oi := ?oi_41) (v := ?v_41) ?hi_41 ?hz_41 ?hs_41 ?hf_41 ?hr_41 ?hQ_41 (Or.inl ⟨?hw_41, ?hy_41⟩) ?hS_41 ?hrest_41
                    case hi_41 => (simp only [List.getElem?_toArray, List.getElem?_cons_succ, List.getElem?_cons_zero]; exact rfl)
                    case hz_41 => kernel_rfl
                    case hs_41 => kernel_rfl
                    case hf_41 => kernel_rfl
                    case hr_41 => kernel_rfl
                    case hQ_41 => exact fun _ _ _ h => h
                    case hw_41 => rfl
                    case hS_41 => assumption
                    case hy_41 => (intro w hSw; (try dsimp only at hSw); go_simp; try with_reducible rfl)
                    try simp only [Act.put, List.setIfInBounds_toArray, List.set_cons_zero, List.set_cons_succ]
                    refine anyZ_free (i := 11) (oi := ?oi_42) (v := ?v_42) ?hi_42 ?hs_42 ?hf_42 ?hr_42 ?hQ_42 (Or.inl ⟨?hw_42, ?hy_42⟩) ?hrest_42
                    case hi_42 => (simp only [List.getElem?_toArray, List.getElem?_cons_succ, List.getElem?_cons_zero]; exact rfl)
                    case hs_42 => kernel_rfl
                    case hf_42 => kernel_rfl
                    case hr_42 => kernel_rfl
                    case hQ_42 => exact fun _ _ _ h => h
                    case hw_42 => rfl
                    case hy_42 => (intro w _; go_simp; try with_reducible rfl)
                    try simp only [Act.put, List.setIfInBounds_toArray, List.set_cons_zero, List.set_cons_succ]
                    refine anyZ_take (i := 12) (oi := ?oi_43) (v := ?v_43) ?hi_43 ?hz_43 ?hs_43 ?hf_43 ?hr_43 ?hQ_43 (Or.inl ⟨?hw_43, ?hy_43⟩) ?hS_43 ?hrest_43
                    case hi_43 => (simp only [List.getElem?_toArray, List.getElem?_cons_succ, List.getElem?_cons_zero]; exact rfl)
                    case hz_43 => kernel_rfl
                    case hs_43 => kernel_rfl
                    case hf_43 => kernel_rfl
                    case hr_43 => kernel_rfl
                    case hQ_43 => exact fun _ _ _ h => h
                    case hw_43 => rfl
                    case hS_43 => assumption
                    case hy_43 => (intro w hSw; (try dsimp only at hSw); go_simp; try with_reducible rfl)
                    try simp only [Act.put, List.setIfInBounds_toArray, List.set_cons_zero, List.set_cons_succ]
                    refine anyZ_ready (rs := [13]) (by kernel_rfl) (by simp) ?_
                    refine (AllZ.cons (o := ?o_44) ?ho_44 (fun K hK => ?st_44) AllZ.nil)
                    case ho_44 => (simp only [List.getElem?_toArray, List.getElem?_cons_succ, List.getElem?_cons_zero]; exact rfl)
                    case st_44 =>
                      go_simp
                      (first | (go_at_call 68; first | (with_reducible refine (cm _).mono ?_; rintro e w_cm ⟨rfl, b_cm⟩; have z_cm := b_cm.size; (try simp only [szs] at z_cm))))
                      refine hK.out _ _ (by ((try dsimp only); (first | exact ⟨tv2.out.drew, se, sf, tm2.out.drew.c _ le2, tm2.out.drew.c _ lf2⟩ | exact ⟨tv2.out.drew.below b_cm tv2.out.drew.lt, by rw [(bcell b_cm).1 R _ ts2.out.drew.lt]; exact se, by rw [(bcell b_cm).1 R _ ts2.out.drew.lt]; exact sf, (tm2.out.drew.below b_cm tm2.out.drew.lt).c _ le2, (tm2.out.drew.below b_cm tm2.out.drew.lt).c _ lf2⟩))) (fun hHeld => ?_)
                      clear hK K
                      try simp only [Act.put, List.setIfInBounds_toArray, List.set_cons_zero, List.set_cons_succ]
                      refine anyZ_ready (rs := [14]) (by kernel_rfl) (by simp) ?_
                      refine (AllZ.last (o := ?o_45) ?ho_45 (by rfl) (fun K hK => ?st_45) AllZ.nil)
                      case ho_45 => (simp only [List.getElem?_toArray, List.getElem?_cons_succ, List.getElem?_cons_zero]; exact rfl)
                      case st_45 =>
                        rw [if_pos (by rfl)]; refine wp_storeArr 81 _ _ rfl V rfl V3 rfl (tv2.out.drew.below b_cm tv2.out.drew.lt) (by kernel_rfl) ?_; intro W9 hWn tv3 zWn
                        refine hK.out _ _ ?_
                        clear hK K
                        try simp only [Act.put, List.setIfInBounds_toArray, List.set_cons_zero, List.set_cons_succ]
                        refine anyZ_done (by kernel_rfl) ?_ _
                        refine NoPanic.normal ?_
                        have th3 : Hid (Arr W9 .u32 N 8 h) := by rw [hWn.out]; exact (th2.out.drew.below b_cm th2.out.drew.lt).farCells (by omega) _ _
                        have tr3 : Hid (Arr W9 .u32 (N + 1) 8 (fun _ => 0)) := by rw [hWn.out]; exact (tr2.out.drew.below b_cm tr2.out.drew.lt).farCells (by omega) _ _
                        have tm3 : Hid (Arr W9 .u32 M 16 m) := by rw [hWn.out]; exact (tm2.out.drew.below b_cm tm2.out.drew.lt).farCells (by omega) _ _
                        have ts3 : Hid (Arr W9 .i64 R 16 (Ob.sig r)) := by rw [hWn.out]; exact (ts2.out.drew.below b_cm ts2.out.drew.lt).farCells (by omega) _ _
                        have hB3 : Below N w W9 := by rw [hWn.out]; exact below_setCells (below_via b_cm hB2.drew (by have := th2.out.drew.lt; omega)) (by omega) _ _
                        clear hHeld hWn zWn b_cm z_cm cm se sf ie je ig jg tv2 th2 tr2 tm2 ts2 hB2 hV3 hv2 hs2 he2 hf2 le2 lf2
                        -- mixing 3
                        obtain ⟨e3, he3⟩ : ∃ e, Hid (Ob.sig r 6 = e) := ⟨_, rfl⟩
                        obtain ⟨f3, hf3⟩ : ∃ e, Hid (Ob.sig r 7 = e) := ⟨_, rfl⟩
                        have le3 : e3 < 16 := by rw [← he3.out]; exact Ob.sig_lt hlt (by decide)
                        have lf3 : f3 < 16 := by rw [← hf3.out]; exact Ob.sig_lt hlt (by decide)
                        obtain ⟨V4, hV4⟩ : ∃ V, Hid (Ob.mixN V3 3 7 11 15 (m e3) (m f3) = V) := ⟨_, rfl⟩
                        have hv4 : Hid (Ob.Words32 V4) := by rw [← hV4.out]; exact Ob.mixN_words hv3.out _ _ _ _ _ _
                        have hs4 : Hid (Ob.roundN v' m r 4 = V4) := by
                          show _ = _
                          rw [← hV4.out, ← hs3.out, ← he3.out, ← hf3.out]
                          rfl
                        have cm : ∀ w, Calls Tryd.prog 68 #[.agg (arrL .u32 V3 16).toArray, .int .i64 3, .int .i64 7, .int .i64 11, .int .i64 15, .int .u32 (m e3 : Nat), .int .u32 (m f3 : Nat)] w fun e' w' => e' = .returned (.agg (arrL .u32 V4 16).toArray) ∧ Below w.heap.size w w' := fun w => by
                          have q := rmix_core V3 hv3.out 3 7 11 15 (m e3) (m f3) (by decide) (by decide) (by decide) (by decide) (hm.out _) (hm.out _) w
                          rw [hV4.out] at q
                          exact q
                        have se : W9.drew.cell? ⟨R, 6, none⟩ = some (.int .i64 (e3 : Nat)) := by rw [← he3.out]; exact ts3.out.drew.c 6 (by decide)
                        have sf : W9.drew.cell? ⟨R, 7, none⟩ = some (.int .i64 (f3 : Nat)) := by rw [← hf3.out]; exact ts3.out.drew.c 7 (by decide)
                        have ie : (e3 : Int) < 16 := by omega
                        have je : (0 : Int) ≤ (e3 : Int) := by omega
                        have ig : (f3 : Int) < 16 := by omega
                        have jg : (0 : Int) ≤ (f3 : Int) := by omega
                        go_upto_region 20 with (fail)
                        refine wp_region_noPanic ?_
                        refine region_lastly (S := (fun w' => Arr w' .u32 V 16 V3 ∧ w'.cell? ⟨R, 6, none⟩ = some (.int .i64 (e3 : Nat)) ∧ w'.cell? ⟨R, 7, none⟩ = some (.int .i64 (f3 : Nat)) ∧ w'.cell? ⟨M, e3, none⟩ = some (.int .u32 (m e3 : Nat)) ∧ w'.cell? ⟨M, f3, none⟩ = some (.int .u32 (m f3 : Nat)))) [14] (by kernel_rfl) (by ((try dsimp only); (first | exact ⟨tv3.out.drew, se, sf, tm3.out.drew.c _ le3, tm3.out.drew.c _ lf3⟩ | exact ⟨tv3.out.drew.below b_cm tv3.out.drew.lt, by rw [(bcell b_cm).1 R _ ts3.out.drew.lt]; exact se, by rw [(bcell b_cm).1 R _ ts3.out.drew.lt]; exact sf, (tm3.out.drew.below b_cm tm3.out.drew.lt).c _ le3, (tm3.out.drew.below b_cm tm3.out.drew.lt).c _ lf3⟩))) (fun hHeld => ?_)
                        refine anyZ_take (i := 0) (oi := ?oi_46) (v := .agg (arrL .u32 V3 16).toArray) ?hi_46 ?hz_46 ?hs_46 ?hf_46 ?hr_46 ?hQ_46 ?hy_46 ?hS_46 ?hrest_46
                        case hi_46 => (simp only [List.getElem?_toArray, List.getElem?_cons_succ, List.getElem?_cons_zero]; exact rfl)
                        case hz_46 => kernel_rfl
                        case hs_46 => kernel_rfl
                        case hf_46 => kernel_rfl
                        case hr_46 => kernel_rfl
                        case hQ_46 => exact fun _ _ _ h => h
                        case hS_46 => assumption
                        case hy_46 => (refine yieldsArr (k := .u32) (n := 16) (v := V3) ?_ 81 (.tmp 11) ?_ V ?_ ?_ Tryd.underlying81 ?_ ?_; (focus rfl); (focus rfl); (focus rfl); (focus exact fun w h => And.left h); (focus rfl); kernel_rfl)
                        try simp only [Act.put, List.setIfInBounds_toArray, List.set_cons_zero, List.set_cons_succ]
                        refine anyZ_free (i := 1) (oi := ?oi_47) (v := ?v_47) ?hi_47 ?hs_47 ?hf_47 ?hr_47 ?hQ_47 (Or.inl ⟨?hw_47, ?hy_47⟩) ?hrest_47
                        case hi_47 => (simp only [List.getElem?_toArray, List.getElem?_cons_succ, List.getElem?_cons_zero]; exact rfl)
                        case hs_47 => kernel_rfl
                        case hf_47 => kernel_rfl
                        case hr_47 => kernel_rfl
                        case hQ_47 => exact fun _ _ _ h => h
                        case hw_47 => rfl
                        case hy_47 => (intro w _; go_simp; try with_reducible rfl)
                        try simp only [Act.put, List.setIfInBounds_toArray, List.set_cons_zero, List.set_cons_succ]
                        refine anyZ_free (i := 2) (oi := ?oi_48) (v := ?v_48) ?hi_48 ?hs_48 ?hf_48 ?hr_48 ?hQ_48 (Or.inl ⟨?hw_48, ?hy_48⟩) ?hrest_48
                        case hi_48 => (simp only [List.getElem?_toArray, List.getElem?_cons_succ, List.getElem?_cons_zero]; exact rfl)
                        case hs_48 => kernel_rfl
                        case hf_48 => kernel_rfl
                        case hr_48 => kernel_rfl
                        case hQ_48 => exact fun _ _ _ h => h
                        case hw_48 => rfl
                        case hy_48 => (intro w _; go_simp; try with_reducible rfl)
                        try simp only [Act.put, List.setIfInBounds_toArray, List.set_cons_zero, List.set_cons_succ]
                        refine anyZ_free (i := 3) (oi := ?oi_49) (v := ?v_49) ?hi_49 ?hs_49 ?hf_49 ?hr_49 ?hQ_49 (Or.inl ⟨?hw_49, ?hy_49⟩) ?hrest_49
                        case hi_49 => (simp only [List.getElem?_toArray, List.getElem?_cons_succ, List.getElem?_cons_zero]; exact rfl)
                        case hs_49 => kernel_rfl
                        case hf_49 => kernel_rfl
                        case hr_49 => kernel_rfl
                        case hQ_49 => exact fun _ _ _ h => h
                        case hw_49 => rfl
                        case hy_49 => (intro w _; go_simp; try with_reducible rfl)
                        try simp only [Act.put, List.setIfInBounds_toArray, List.set_cons_zero, List.set_cons_succ]
                        refine anyZ_take (i := 4) (oi := ?oi_50) (v := ?v_50) ?hi_50 ?hz_50 ?hs_50 ?hf_50 ?hr_50 ?hQ_50 (Or.inl ⟨?hw_50, ?hy_50⟩) ?hS_50 ?hrest_50
                        case hi_50 => (simp only [List.getElem?_toArray, List.getElem?_cons_succ, List.getElem?_cons_zero]; exact rfl)
                        case hz_50 => kernel_rfl
                        case hs_50 => kernel_rfl
                        case hf_50 => kernel_rfl
                        case hr_50 => kernel_rfl
                        case hQ_50 => exact fun _ _ _ h => h
                        case hw_50 => rfl
                        case hS_50 => assumption
                        case hy_50 => (intro w hSw; (try dsimp only at hSw); go_simp; try with_reducible rfl)
                        try simp only [Act.put, List.setIfInBounds_toArray, List.set_cons_zero, List.set_cons_succ]
                        refine anyZ_free (i := 5) (oi := ?oi_51) (v := ?v_51) ?hi_51 ?hs_51 ?hf_51 ?hr_51 ?hQ_51 (Or.inl ⟨?hw_51, ?hy_51⟩) ?hrest_51
                        case hi_51 => (simp only [List.getElem?_toArray, List.getElem?_cons_succ, List.getElem?_cons_zero]; exact rfl)
                        case hs_51 => kernel_rfl
                        case hf_51 => kernel_rfl
                        case hr_51 => kernel_rfl
                        case hQ_51 => exact fun _ _ _ h => h
                        case hw_51 => rfl
                        case hy_51 => (intro w _; go_simp; try with_reducible rfl)
                        try simp only [Act.put, List.setIfInBounds_toArray, List.set_cons_zero, List.set_cons_succ]
                        refine anyZ_take (i := 6) (oi := ?oi_52) (v := ?v_52) ?hi_52 ?hz_52 ?hs_52 ?hf_52 ?hr_52 ?hQ_52 (Or.inl ⟨?hw_52, ?hy_52⟩) ?hS_52 ?hrest_52
                        case hi_52 => (simp only [List.getElem?_toArray, List.getElem?_cons_succ, List.getElem?_cons_zero]; exact rfl)
                        case hz_52 => kernel_rfl
                        case hs_52 => kernel_rfl
                        case hf_52 => kernel_rfl
                        case hr_52 => kernel_rfl
                        case hQ_52 => exact fun _ _ _ h => h
                        case hw_52 => rfl
                        case hS_52 => assumption
                        case hy_52 => (intro w hSw; (try dsimp only at hSw); go_simp; try with_reducible rfl)
                        try simp only [Act.put, List.setIfInBounds_toArray, List.set_cons_zero, List.set_cons_succ]
                        refine anyZ_free (i := 7) (oi := ?oi_53) (v := ?v_53) ?hi_53 ?hs_53 ?hf_53 ?hr_53 ?hQ_53 (Or.inl ⟨?hw_53, ?hy_53⟩) ?hrest_53
                        case hi_53 => (simp only [List.getElem?_toArray, List.getElem?_cons_succ, List.getElem?_cons_zero]; exact rfl)
                        case hs_53 => kernel_rfl
                        case hf_53 => kernel_rfl
                        case hr_53 => kernel_rfl
                        case hQ_53 => exact fun _ _ _ h => h
                        case hw_53 => rfl
                        case hy_53 => (intro w _; go_simp; try with_reducible rfl)
                        try simp only [Act.put, List.setIfInBounds_toArray, List.set_cons_zero, List.set_cons_succ]
                        refine anyZ_free (i := 8) (oi := ?oi_54) (v := ?v_54) ?hi_54 ?hs_54 ?hf_54 ?hr_54 ?hQ_54 (Or.inl ⟨?hw_54, ?hy_54⟩) ?hrest_54
                        case hi_54 => (simp only [List.getElem?_toArray, List.getElem?_cons_succ, List.getElem?_cons_zero]; exact rfl)
                        case hs_54 => kernel_rfl
                        case hf_54 => kernel_rfl
                        case hr_54 => kernel_rfl
                        case hQ_54 => exact fun _ _ _ h => h
                        case hw_54 => rfl
                        case hy_54 => (intro w _; go_simp; try with_reducible rfl)
                        try simp only [Act.put, List.setIfInBounds_toArray, List.set_cons_zero, List.set_cons_succ]
                        refine anyZ_free (i := 9) (oi := ?oi_55) (v := ?v_55) ?hi_55 ?hs_55 ?hf_55 ?hr_55 ?hQ_55 (Or.inl ⟨?hw_55, ?hy_55⟩) ?hrest_55
                        case hi_55 => (simp only [List.getElem?_toArray, List.getElem?_cons_succ, List.getElem?_cons_zero]; exact rfl)
                        case hs_55 => kernel_rfl
                        case hf_55 => kernel_rfl
                        case hr_55 => kernel_rfl
                        case hQ_55 => exact fun _ _ _ h => h
                        case hw_55 => rfl
                        case hy_55 => (intro w _; go_simp; try with_reducible rfl)
                        try simp only [Act.put, List.setIfInBounds_toArray, List.set_cons_zero, List.set_cons_succ]
                        refine anyZ_take (i := 10) (oi := ?oi_56) (v := ?v_56) ?hi_56 ?hz_56 ?hs_56 ?hf_56 ?hr_56 ?hQ_56 (Or.inl ⟨?hw_56, ?hy_56⟩) ?hS_56 ?hrest_56
                        case hi_56 => (simp only [List.getElem?_toArray, List.getElem?_cons_succ, List.getElem?_cons_zero]; exact rfl)
                        case hz_56 => kernel_rfl
                        case hs_56 => kernel_rfl
                        case hf_56 => kernel_rfl
                        case hr_56 => kernel_rfl
                        case hQ_56 => exact fun _ _ _ h => h
                        case hw_56 => rfl
                        case hS_56 => assumption
                        case hy_56 => (intro w hSw; (try dsimp only at hSw); go_simp; try with_reducible rfl)
                        try simp only [Act.put, List.setIfInBounds_toArray, List.set_cons_zero, List.set_cons_succ]
                        refine anyZ_free (i := 11) (oi := ?oi_57) (v := ?v_57) ?hi_57 ?hs_57 ?hf_57 ?hr_57 ?hQ_57 (Or.inl ⟨?hw_57, ?hy_57⟩) ?hrest_57
                        case hi_57 => (simp only [List.getElem?_toArray, List.getElem?_cons_succ, List.getElem?_cons_zero]; exact rfl)
                        case hs_57 => kernel_rfl
                        case hf_57 => kernel_rfl
                        case hr_57 => kernel_rfl
                        case hQ_57 => exact fun _ _ _ h => h
                        case hw_57 => rfl
                        case hy_57 => (intro w _; go_simp; try with_reducible rfl)
                        try simp only [Act.put, List.setIfInBounds_toArray, List.set_cons_zero, List.set_cons_succ]
                        refine anyZ_take (i := 12) (oi := ?oi_58) (v := ?v_58) ?hi_58 ?hz_58 ?hs_58 ?hf_58 ?hr_58 ?hQ_58 (Or.inl ⟨?hw_58, ?hy_58⟩) ?hS_58 ?hrest_58
                        case hi_58 => (simp only [List.getElem?_toArray, List.getElem?_cons_succ, List.getElem?_cons_zero]; exact rfl)
                        case hz_58 => kernel_rfl
                        case hs_58 => kernel_rfl
                        case hf_58 => kernel_rfl
                        case hr_58 => kernel_rfl
                        case hQ_58 => exact fun _ _ _ h => h
                        case hw_58 => rfl
                        case hS_58 => assumption
                        case hy_58 => (intro w hSw; (try dsimp only at hSw); go_simp; try with_reducible rfl)
                        try simp only [Act.put, List.setIfInBounds_toArray, List.set_cons_zero, List.set_cons_succ]
                        refine anyZ_ready (rs := [13]) (by kernel_rfl) (by simp) ?_
                        refine (AllZ.cons (o := ?o_59) ?ho_59 (fun K hK => ?st_59) AllZ.nil)
                        case ho_59 => (simp only [List.getElem?_toArray, List.getElem?_cons_succ, List.getElem?_cons_zero]; exact rfl)
                        case st_59 =>
                          go_simp
                          (first | (go_at_call 68; first | (with_reducible refine (cm _).mono ?_; rintro e w_cm ⟨rfl, b_cm⟩; have z_cm := b_cm.size; (try simp only [szs] at z_cm))))
                          refine hK.out _ _ (by ((try dsimp only); (first | exact ⟨tv3.out.drew, se, sf, tm3.out.drew.c _ le3, tm3.out.drew.c _ lf3⟩ | exact ⟨tv3.out.drew.below b_cm tv3.out.drew.lt, by rw [(bcell b_cm).1 R _ ts3.out.drew.lt]; exact se, by rw [(bcell b_cm).1 R _ ts3.out.drew.lt]; exact sf, (tm3.out.drew.below b_cm tm3.out.drew.lt).c _ le3, (tm3.out.drew.below b_cm tm3.out.drew.lt).c _ lf3⟩))) (fun hHeld => ?_)
                          clear hK K
                          try simp only [Act.put, List.setIfInBounds_toArray, List.set_cons_zero, List.set_cons_succ]
                          refine anyZ_ready (rs := [14]) (by kernel_rfl) (by simp) ?_
                          refine (AllZ.last (o := ?o_60) ?ho_60 (by rfl) (fun K hK => ?st_60) AllZ.nil)
                          case ho_60 => (simp only [List.getElem?_toArray, List.getElem?_cons_succ, List.getElem?_cons_zero]; exact rfl)
                          case st_60 =>
                            rw [if_pos (by rfl)]; refine wp_storeArr 81 _ _ rfl V rfl V4 rfl (tv3.out.drew.below b_cm tv3.out.drew.lt) (by kernel_rfl) ?_; intro W10 hWn tv4 zWn
                            refine hK.out _ _ ?_
                            clear hK K
                            try simp only [Act.put, List.setIfInBounds_toArray, List.set_cons_zero, List.set_cons_succ]
                            refine anyZ_done (by kernel_rfl) ?_ _
                            refine NoPanic.normal ?_
                            have th4 : Hid (Arr W10 .u32 N 8 h) := by rw [hWn.out]; exact (th3.out.drew.below b_cm th3.out.drew.lt).farCells (by omega) _ _
                            have tr4 : Hid (Arr W10 .u32 (N + 1) 8 (fun _ => 0)) := by rw [hWn.out]; exact (tr3.out.drew.below b_cm tr3.out.drew.lt).farCells (by omega) _ _
                            have tm4 : Hid (Arr W10 .u32 M 16 m) := by rw [hWn.out]; exact (tm3.out.drew.below b_cm tm3.out.drew.lt).farCells (by omega) _ _
                            have ts4 : Hid (Arr W10 .i64 R 16 (Ob.sig r)) := by rw [hWn.out]; exact (ts3.out.drew.below b_cm ts3.out.drew.lt).farCells (by omega) _ _
                            have hB4 : Below N w W10 := by rw [hWn.out]; exact below_setCells (below_via b_cm hB3.drew (by have := th3.out.drew.lt; omega)) (by omega) _ _
                            clear hHeld hWn zWn b_cm z_cm cm se sf ie je ig jg tv3 th3 tr3 tm3 ts3 hB3 hV4 hv3 hs3 he3 hf3 le3 lf3
                            -- mixing 4
                            obtain ⟨e4, he4⟩ : ∃ e, Hid (Ob.sig r 8 = e) := ⟨_, rfl⟩
                            obtain ⟨f4, hf4⟩ : ∃ e, Hid (Ob.sig r 9 = e) := ⟨_, rfl⟩
                            have le4 : e4 < 16 := by rw [← he4.out]; exact Ob.sig_lt hlt (by decide)
                            have lf4 : f4 < 16 := by rw [← hf4.out]; exact Ob.sig_lt hlt (by decide)
                            obtain ⟨V5, hV5⟩ : ∃ V, Hid (Ob.mixN V4 0 5 10 15 (m e4) (m f4) = V) := ⟨_, rfl⟩
                            have hv5 : Hid (Ob.Words32 V5) := by rw [← hV5.out]; exact Ob.mixN_words hv4.out _ _ _ _ _ _
                            have hs5 : Hid (Ob.roundN v' m r 5 = V5) := by
                              show _ = _
                              rw [← hV5.out, ← hs4.out, ← he4.out, ← hf4.out]
                              rfl
                            have cm : ∀ w, Calls Tryd.prog 68 #[.agg (arrL .u32 V4 16).toArray, .int .i64 0, .int .i64 5, .int .i64 10, .int .i64 15, .int .u32 (m e4 : Nat), .int .u32 (m f4 : Nat)] w fun e' w' => e' = .returned (.agg (arrL .u32 V5 16).toArray) ∧ Below w.heap.size w w' := fun w => by
                              have q := rmix_core V4 hv4.out 0 5 10 15 (m e4) (m f4) (by decide) (by decide) (by decide) (by decide) (hm.out _) (hm.out _) w
                              rw [hV5.out] at q
                              exact q
                            have se : W10.drew.cell? ⟨R, 8, none⟩ = some (.int .i64 (e4 : Nat)) := by rw [← he4.out]; exact ts4.out.drew.c 8 (by decide)
                            have sf : W10.drew.cell? ⟨R, 9, none⟩ = some (.int .i64 (f4 : Nat)) := by rw [← hf4.out]; exact ts4.out.drew.c 9 (by decide)
                            have ie : (e4 : Int) < 16 := by omega
                            have je : (0 : Int) ≤ (e4 : Int) := by omega
                            have ig : (f4 : Int) < 16 := by omega
                            have jg : (0 : Int) ≤ (f4 : Int) := by omega
                            go_upto_region 21 with (fail)
                            refine wp_region_noPanic ?_
                            refine region_lastly (S := (fun w' => Arr w' .u32 V 16 V4 ∧ w'.cell? ⟨R, 8, none⟩ = some (.int .i64 (e4 : Nat)) ∧ w'.cell? ⟨R, 9, none⟩ = some (.int .i64 (f4 : Nat)) ∧ w'.cell? ⟨M, e4, none⟩ = some (.int .u32 (m e4 : Nat)) ∧ w'.cell? ⟨M, f4, none⟩ = some (.int .u32 (m f4 : Nat)))) [14] (by kernel_rfl) (by ((try dsimp only); (first | exact ⟨tv4.out.drew, se, sf, tm4.out.drew.c _ le4, tm4.out.drew.c _ lf4⟩ | exact ⟨tv4.out.drew.below b_cm tv4.out.drew.lt, by rw [(bcell b_cm).1 R _ ts4.out.drew.lt]; exact se, by rw [(bcell b_cm).1 R _ ts4.out.drew.lt]; exact sf, (tm4.out.drew.below b_cm tm4.out.drew.lt).c _ le4, (tm4.out.drew.below b_cm tm4.out.drew.lt).c _ lf4⟩))) (fun hHeld => ?_)
                            refine anyZ_take (i := 0) (oi := ?oi_61) (v := .agg (arrL .u32 V4 16).toArray) ?hi_61 ?hz_61 ?hs_61 ?hf_61 ?hr_61 ?hQ_61 ?hy_61 ?hS_61 ?hrest_61
                            case hi_61 => (simp only [List.getElem?_toArray, List.getElem?_cons_succ, List.getElem?_cons_zero]; exact rfl)
                            case hz_61 => kernel_rfl
                            case hs_61 => kernel_rfl
                            case hf_61 => kernel_rfl
                            case hr_61 => kernel_rfl
                            case hQ_61 => exact fun _ _ _ h => h
                            case hS_61 => assumption
                            case hy_61 => (refine yieldsArr (k := .u32) (n := 16) (v := V4) ?_ 81 (.tmp 11) ?_ V ?_ ?_ Tryd.underlying81 ?_ ?_; (focus rfl); (focus rfl); (focus rfl); (focus exact fun w h => And.left h); (focus rfl); kernel_rfl)
                            try simp only [Act.put, List.setIfInBounds_toArray, List.set_cons_zero, List.set_cons_succ]
                            refine anyZ_free (i := 1) (oi := ?oi_62) (v := ?v_62) ?hi_62 ?hs_62 ?hf_62 ?hr_62 ?hQ_62 (Or.inl ⟨?hw_62, ?hy_62⟩) ?hrest_62
                            case hi_62 => (simp only [List.getElem?_toArray, List.getElem?_cons_succ, List.getElem?_cons_zero]; exact rfl)
                            case hs_62 => kernel_rfl
                            case hf_62 => kernel_rfl
                            case hr_62 => kernel_rfl
                            case hQ_62 => exact fun _ _ _ h => h
                            case hw_62 => rfl
                            case hy_62 => (intro w _; go_simp; try with_reducible rfl)
                            try simp only [Act.put, List.setIfInBounds_toArray, List.set_cons_zero, List.set_cons_succ]
                            refine anyZ_free (i := 2) (oi := ?oi_63) (v := ?v_63) ?hi_63 ?hs_63 ?hf_63 ?hr_63 ?hQ_63 (Or.inl ⟨?hw_63, ?hy_63⟩) ?hrest_63
                            case hi_63 => (simp only [List.getElem?_toArray, List.getElem?_cons_succ, List.getElem?_cons_zero]; exact rfl)
                            case hs_63 => kernel_rfl
                            case hf_63 => kernel_rfl
                            case hr_63 => kernel_rfl
                            case hQ_63 => exact fun _ _ _ h => h
                            case hw_63 => rfl
                            case hy_63 => (intro w _; go_simp; try with_reducible rfl)
                            try simp only [Act.put, List.setIfInBounds_toArray, List.set_cons_zero, List.set_cons_succ]
                            refine anyZ_free (i := 3) (oi := ?oi_64) (v := ?v_64) ?hi_64 ?hs_64 ?hf_64 ?hr_64 ?hQ_64 (Or.inl ⟨?hw_64, ?hy_64⟩) ?hrest_64
                            case hi_64 => (simp only [List.getElem?_toArray, List.getElem?_cons_succ, List.getElem?_cons_zero]; exact rfl)
                            case hs_64 => kernel_rfl
                            case hf_64 => kernel_rfl
                            case hr_64 => kernel_rfl
                            case hQ_64 => exact fun _ _ _ h => h
                            case hw_64 => rfl
                            case hy_64 => (intro w _; go_simp; try with_reducible rfl)
                            try simp only [Act.put, List.setIfInBounds_toArray, List.set_cons_zero, List.set_cons_succ]
                            refine anyZ_take (i := 4) (oi := ?oi_65) (v := ?v_65) ?hi_65 ?hz_65 ?hs_65 ?hf_65 ?hr_65 ?hQ_65 (Or.inl ⟨?hw_65, ?hy_65⟩) ?hS_65 ?hrest_65
                            case hi_65 => (simp only [List.getElem?_toArray, List.getElem?_cons_succ, List.getElem?_cons_zero]; exact rfl)
                            case hz_65 => kernel_rfl
                            case hs_65 => kernel_rfl
                            case hf_65 => kernel_rfl
                            case hr_65 => kernel_rfl
                            case hQ_65 => exact fun _ _ _ h => h
                            case hw_65 => rfl
                            case hS_65 => assumption
                            case hy_65 => (intro w hSw; (try dsimp only at hSw); go_simp; try with_reducible rfl)
                            try simp only [Act.put, List.setIfInBounds_toArray, List.set_cons_zero, List.set_cons_succ]
                            refine anyZ_free (i := 5) (oi := ?oi_66) (v := ?v_66) ?hi_66 ?hs_66 ?hf_66 ?hr_66 ?hQ_66 (Or.inl ⟨?hw_66, ?hy_66⟩) ?hrest_66
                            case hi_66 => (simp only [List.getElem?_toArray, List.getElem?_cons_succ, List.getElem?_cons_zero]; exact rfl)
                            case hs_66 => kernel_rfl
                            case hf_66 => kernel_rfl
                            case hr_66 => kernel_rfl
                            case hQ_66 => exact fun _ _ _ h => h
                            case hw_66 => rfl
                            case hy_66 => (intro w _; go_simp; try with_reducible rfl)
                            try simp only [Act.put, List.setIfInBounds_toArray, List.set_cons_zero, List.set_cons_succ]
                            refine anyZ_take (i := 6) (oi := ?oi_67) (v := ?v_67) ?hi_67 ?hz_67 ?hs_67 ?hf_67 ?hr_67 ?hQ_67 (Or.inl ⟨?hw_67, ?hy_67⟩) ?hS_67 ?hrest_67
                            case hi_67 => (simp only [List.getElem?_toArray, List.getElem?_cons_succ, List.getElem?_cons_zero]; exact rfl)
                            case hz_67 => kernel_rfl
                            case hs_67 => kernel_rfl
                            case hf_67 => kernel_rfl
                            case hr_67 => kernel_rfl
                            case hQ_67 => exact fun _ _ _ h => h
                            case hw_67 => rfl
                            case hS_67 => assumption
                            case hy_67 => (intro w hSw; (try dsimp only at hSw); go_simp; try with_reducible rfl)
                            try simp only [Act.put, List.setIfInBounds_toArray, List.set_cons_zero, List.set_cons_succ]
                            refine anyZ_free (i := 7) (oi := ?oi_68) (v := ?v_68) ?hi_68 ?hs_68 ?hf_68 ?hr_68 ?hQ_68 (Or.inl ⟨?hw_68, ?hy_68⟩) ?hrest_68
                            case hi_68 => (simp only [List.getElem?_toArray, List.getElem?_cons_succ, List.getElem?_cons_zero]; exact rfl)
                            case hs_68 => kernel_rfl
                            case hf_68 => kernel_rfl
                            case hr_68 => kernel_rfl
                            case hQ_68 => exact fun _ _ _ h => h
                            case hw_68 => rfl
                            case hy_68 => (intro w _; go_simp; try with_reducible rfl)
                            try simp only [Act.put, List.setIfInBounds_toArray, List.set_cons_zero, List.set_cons_succ]
                            refine anyZ_free (i := 8) (oi := ?oi_69) (v := ?v_69) ?hi_69 ?hs_69 ?hf_69 ?hr_69 ?hQ_69 (Or.inl ⟨?hw_69, ?hy_69⟩) ?hrest_69
                            case hi_69 => (simp only [List.getElem?_toArray, List.getElem?_cons_succ, List.getElem?_cons_zero]; exact rfl)
                            case hs_69 => kernel_rfl
                            case hf_69 => kernel_rfl
                            case hr_69 => kernel_rfl
                            case hQ_69 => exact fun _ _ _ h => h
                            case hw_69 => rfl
                            case hy_69 => (intro w _; go_simp; try with_reducible rfl)
                            try simp only [Act.put, List.setIfInBounds_toArray, List.set_cons_zero, List.set_cons_succ]
                            refine anyZ_free (i := 9) (oi := ?oi_70) (v := ?v_70) ?hi_70 ?hs_70 ?hf_70 ?hr_70 ?hQ_70 (Or.inl ⟨?hw_70, ?hy_70⟩) ?hrest_70
                            case hi_70 => (simp only [List.getElem?_toArray, List.getElem?_cons_succ, List.getElem?_cons_zero]; exact rfl)
                            case hs_70 => kernel_rfl
                            case hf_70 => kernel_rfl
                            case hr_70 => kernel_rfl
                            case hQ_70 => exact fun _ _ _ h => h
                            case hw_70 => rfl
                            case hy_70 => (intro w _; go_simp; try with_reducible rfl)
                            try simp only [Act.put, List.setIfInBounds_toArray, List.set_cons_zero, List.set_cons_succ]
                            refine anyZ_take (i := 10) (oi := ?oi_71) (v := ?v_71) ?hi_71 ?hz_71 ?hs_71 ?hf_71 ?hr_71 ?hQ_71 (Or.inl ⟨?hw_71, ?hy_71⟩) ?hS_71 ?hrest_71
                            case hi_71 => (simp only [List.getElem?_toArray, List.getElem?_cons_succ, List.getElem?_cons_zero]; exact rfl)
                            case hz_71 => kernel_rfl
                            case hs_71 => kernel_rfl
                            case hf_71 => kernel_rfl
                            case hr_71 => kernel_rfl
                            case hQ_71 => exact fun _ _ _ h => h
                            case hw_71 => rfl
                            case hS_71 => assumption
                            case hy_71 => (intro w hSw; (try dsimp only at hSw); go_simp; try with_reducible rfl)
                            try simp only [Act.put, List.setIfInBounds_toArray, List.set_cons_zero, List.set_cons_succ]
                            refine anyZ_free (i := 11) (oi := ?oi_72) (v := ?v_72) ?hi_72 ?hs_72 ?hf_72 ?hr_72 ?hQ_72 (Or.inl ⟨?hw_72, ?hy_72⟩) ?hrest_72
                            case hi_72 => (simp only [List.getElem?_toArray, List.getElem?_cons_succ, List.getElem?_cons_zero]; exact rfl)
                            case hs_72 => kernel_rfl
                            case hf_72 => kernel_rfl
                            case hr_72 => kernel_rfl
                            case hQ_72 => exact fun _ _ _ h => h
                            case hw_72 => rfl
                            case hy_72 => (intro w _; go_simp; try with_reducible rfl)
                            try simp only [Act.put, List.setIfInBounds_toArray, List.set_cons_zero, List.set_cons_succ]
                            refine anyZ_take (i := 12) (oi := ?oi_73) (v := ?v_73) ?hi_73 ?hz_73 ?hs_73 ?hf_73 ?hr_73 ?hQ_73 (Or.inl ⟨?hw_73, ?hy_73⟩) ?hS_73 ?hrest_73
                            case hi_73 => (simp only [List.getElem?_toArray, List.getElem?_cons_succ, List.getElem?_cons_zero]; exact rfl)
                            case hz_73 => kernel_rfl
                            case hs_73 => kernel_rfl
                            case hf_73 => kernel_rfl
                            case hr_73 => kernel_rfl
                            case hQ_73 => exact fun _ _ _ h => h
                            case hw_73 => rfl
                            case hS_73 => assumption
                            case hy_73 => (intro w hSw; (try dsimp only at hSw); go_simp; try with_reducible rfl)
                            try simp only [Act.put, List.setIfInBounds_toArray, List.set_cons_zero, List.set_cons_succ]
                            refine anyZ_ready (rs := [13]) (by kernel_rfl) (by simp) ?_
                            refine (AllZ.cons (o := ?o_74) ?ho_74 (fun K hK => ?st_74) AllZ.nil)
                            case ho_74 => (simp only [List.getElem?_toArray, List.getElem?_cons_succ, List.getElem?_cons_zero]; exact rfl)
                            case st_74 =>
                              go_simp
                              (first | (go_at_call 68; first | (with_reducible refine (cm _).mono ?_; rintro e w_cm ⟨rfl, b_cm⟩; have z_cm := b_cm.size; (try simp only [szs] at z_cm))))
                              refine hK.out _ _ (by ((try dsimp only); (first | exact ⟨tv4.out.drew, se, sf, tm4.out.drew.c _ le4, tm4.out.drew.c _ lf4⟩ | exact ⟨tv4.out.drew.below b_cm tv4.out.drew.lt, by rw [(bcell b_cm).1 R _ ts4.out.drew.lt]; exact se, by rw [(bcell b_cm).1 R _ ts4.out.drew.lt]; exact sf, (tm4.out.drew.below b_cm tm4.out.drew.lt).c _ le4, (tm4.out.drew.below b_cm tm4.out.drew.lt).c _ lf4⟩))) (fun hHeld => ?_)
                              clear hK K
                              try simp only [Act.put, List.setIfInBounds_toArray, List.set_cons_zero, List.set_cons_succ]
                              refine anyZ_ready (rs := [14]) (by kernel_rfl) (by simp) ?_
                              refine (AllZ.last (o := ?o_75) ?ho_75 (by rfl) (fun K hK => ?st_75) AllZ.nil)
                              case ho_75 => (simp only [List.getElem?_toArray, List.getElem?_cons_succ, List.getElem?_cons_zero]; exact rfl)
                              case st_75 =>
                                rw [if_pos (by rfl)]; refine wp_storeArr 81 _ _ rfl V rfl V5 rfl (tv4.out.drew.below b_cm tv4.out.drew.lt) (by kernel_rfl) ?_; intro W11 hWn tv5 zWn
                                refine hK.out _ _ ?_
                                clear hK K
                                try simp only [Act.put, List.setIfInBounds_toArray, List.set_cons_zero, List.set_cons_succ]
                                refine anyZ_done (by kernel_rfl) ?_ _
                                refine NoPanic.normal ?_
                                have th5 : Hid (Arr W11 .u32 N 8 h) := by rw [hWn.out]; exact (th4.out.drew.below b_cm th4.out.drew.lt).farCells (by omega) _ _
                                have tr5 : Hid (Arr W11 .u32 (N + 1) 8 (fun _ => 0)) := by rw [hWn.out]; exact (tr4.out.drew.below b_cm tr4.out.drew.lt).farCells (by omega) _ _
                                have tm5 : Hid (Arr W11 .u32 M 16 m) := by rw [hWn.out]; exact (tm4.out.drew.below b_cm tm4.out.drew.lt).farCells (by omega) _ _
                                have ts5 : Hid (Arr W11 .i64 R 16 (Ob.sig r)) := by rw [hWn.out]; exact (ts4.out.drew.below b_cm ts4.out.drew.lt).farCells (by omega) _ _
                                have hB5 : Below N w W11 := by rw [hWn.out]; exact below_setCells (below_via b_cm hB4.drew (by have := th4.out.drew.lt; omega)) (by omega) _ _
                                clear hHeld hWn zWn b_cm z_cm cm se sf ie je ig jg tv4 th4 tr4 tm4 ts4 hB4 hV5 hv4 hs4 he4 hf4 le4 lf4
                                -- mixing 5
                                obtain ⟨e5, he5⟩ : ∃ e, Hid (Ob.sig r 10 = e) := ⟨_, rfl⟩
                                obtain ⟨f5, hf5⟩ : ∃ e, Hid (Ob.sig r 11 = e) := ⟨_, rfl⟩
                                have le5 : e5 < 16 := by rw [← he5.out]; exact Ob.sig_lt hlt (by decide)
                                have lf5 : f5 < 16 := by rw [← hf5.out]; exact Ob.sig_lt hlt (by decide)
                                obtain ⟨V6, hV6⟩ : ∃ V, Hid (Ob.mixN V5 1 6 11 12 (m e5) (m f5) = V) := ⟨_, rfl⟩
                                have hv6 : Hid (Ob.Words32 V6) := by rw [← hV6.out]; exact Ob.mixN_words hv5.out _ _ _ _ _ _
                                have hs6 : Hid (Ob.roundN v' m r 6 = V6) := by
                                  show _ = _
                                  rw [← hV6.out, ← hs5.out, ← he5.out, ← hf5.out]
                                  rfl
                                have cm : ∀ w, Calls Tryd.prog 68 #[.agg (arrL .u32 V5 16).toArray, .int .i64 1, .int .i64 6, .int .i64 11, .int .i64 12, .int .u32 (m e5 : Nat), .int .u32 (m f5 : Nat)] w fun e' w' => e' = .returned (.agg (arrL .u32 V6 16).toArray) ∧ Below w.heap.size w w' := fun w => by
                                  have q := rmix_core V5 hv5.out 1 6 11 12 (m e5) (m f5) (by decide) (by decide) (by decide) (by decide) (hm.out _) (hm.out _) w
                                  rw [hV6.out] at q
                                  exact q
                                have se : W11.drew.cell? ⟨R, 10, none⟩ = some (.int .i64 (e5 : Nat)) := by rw [← he5.out]; exact ts5.out.drew.c 10 (by decide)
                                have sf : W11.drew.cell? ⟨R, 11, none⟩ = some (.int .i64 (f5 : Nat)) := by rw [← hf5.out]; exact ts5.out.drew.c 11 (by decide)
                                have ie : (e5 : Int) < 16 := by omega
                                have je : (0 : Int) ≤ (e5 : Int) := by omega
                                have ig : (f5 : Int) < 16 := by omega
                                have jg : (0 : Int) ≤ (f5 : Int) := by omega
                                go_upto_region 22 with (fail)
                                refine wp_region_noPanic ?_
                                refine region_lastly (S := (fun w' => Arr w' .u32 V 16 V5 ∧ w'.cell? ⟨R, 10, none⟩ = some (.int .i64 (e5 : Nat)) ∧ w'.cell? ⟨R, 11, none⟩ = some (.int .i64 (f5 : Nat)) ∧ w'.cell? ⟨M, e5, none⟩ = some (.int .u32 (m e5 : Nat)) ∧ w'.cell? ⟨M, f5, none⟩ = some (.int .u32 (m f5 : Nat)))) [14] (by kernel_rfl) (by ((try dsimp only); (first | exact ⟨tv5.out.drew, se, sf, tm5.out.drew.c _ le5, tm5.out.drew.c _ lf5⟩ | exact ⟨tv5.out.drew.below b_cm tv5.out.drew.lt, by rw [(bcell b_cm).1 R _ ts5.out.drew.lt]; exact se, by rw [(bcell b_cm).1 R _ ts5.out.drew.lt]; exact sf, (tm5.out.drew.below b_cm tm5.out.drew.lt).c _ le5, (tm5.out.drew.below b_cm tm5.out.drew.lt).c _ lf5⟩))) (fun hHeld => ?_)
                                refine anyZ_take (i := 0) (oi := ?oi_76) (v := .agg (arrL .u32 V5 16).toArray) ?hi_76 ?hz_76 ?hs_76 ?hf_76 ?hr_76 ?hQ_76 ?hy_76 ?hS_76 ?hrest_76
                                case hi_76 => (simp only [List.getElem?_toArray, List.getElem?_cons_succ, List.getElem?_cons_zero]; exact rfl)
                                case hz_76 => kernel_rfl
                                case hs_76 => kernel_rfl
                                case hf_76 => kernel_rfl
                                case hr_76 => kernel_rfl
                                case hQ_76 => exact fun _ _ _ h => h
                                case hS_76 => assumption
                                case hy_76 => (refine yieldsArr (k := .u32) (n := 16) (v := V5) ?_ 81 (.tmp 11) ?_ V ?_ ?_ Tryd.underlying81 ?_ ?_; (focus rfl); (focus rfl); (focus rfl); (focus exact fun w h => And.left h); (focus rfl); kernel_rfl)
                                try simp only [Act.put, List.setIfInBounds_toArray, List.set_cons_zero, List.set_cons_succ]
                                refine anyZ_free (i := 1) (oi := ?oi_77) (v := ?v_77) ?hi_77 ?hs_77 ?hf_77 ?hr_77 ?hQ_77 (Or.inl ⟨?hw_77, ?hy_77⟩) ?hrest_77
                                case hi_77 => (simp only [List.getElem?_toArray, List.getElem?_cons_succ, List.getElem?_cons_zero]; exact rfl)
                                case hs_77 => kernel_rfl
                                case hf_77 => kernel_rfl
                                case hr_77 => kernel_rfl
                                case hQ_77 => exact fun _ _ _ h => h
                                case hw_77 => rfl
                                case hy_77 => (intro w _; go_simp; try with_reducible rfl)
                                try simp only [Act.put, List.setIfInBounds_toArray, List.set_cons_zero, List.set_cons_succ]
                                refine anyZ_free (i := 2) (oi := ?oi_78) (v := ?v_78) ?hi_78 ?hs_78 ?hf_78 ?hr_78 ?hQ_78 (Or.inl ⟨?hw_78, ?hy_78⟩) ?hrest_78
                                case hi_78 => (simp only [List.getElem?_toArray, List.getElem?_cons_succ, List.getElem?_cons_zero]; exact rfl)
                                case hs_78 => kernel_rfl
                                case hf_78 => kernel_rfl
                                case hr_78 => kernel_rfl
                                case hQ_78 => exact fun _ _ _ h => h
                                case hw_78 => rfl
                                case hy_78 => (intro w _; go_simp; try with_reducible rfl)
                                try simp only [Act.put, List.setIfInBounds_toArray, List.set_cons_zero, List.set_cons_succ]
                                refine anyZ_free (i := 3) (oi := ?oi_79) (v := ?v_79) ?hi_79 ?hs_79 ?hf_79 ?hr_79 ?hQ_79 (Or.inl ⟨?hw_79, ?hy_79⟩) ?hrest_79
                                case hi_79 => (simp only [List.getElem?_toArray, List.getElem?_cons_succ, List.getElem?_cons_zero]; exact rfl)
                                case hs_79 => kernel_rfl
                                case hf_79 => kernel_rfl
                                case hr_79 => kernel_rfl
                                case hQ_79 => exact fun _ _ _ h => h
                                case hw_79 => rfl
                                case hy_79 => (intro w _; go_simp; try with_reducible rfl)
                                try simp only [Act.put, List.setIfInBounds_toArray, List.set_cons_zero, List.set_cons_succ]
                                refine anyZ_take (i := 4) (oi := ?oi_80) (v := ?v_80) ?hi_80 ?hz_80 ?hs_80 ?hf_80 ?hr_80 ?hQ_80 (Or.inl ⟨?hw_80, ?hy_80⟩) ?hS_80 ?hrest_80
                                case hi_80 => (simp only [List.getElem?_toArray, List.getElem?_cons_succ, List.getElem?_cons_zero]; exact rfl)
                                case hz_80 => kernel_rfl
                                case hs_80 => kernel_rfl
                                case hf_80 => kernel_rfl
                                case hr_80 => kernel_rfl
                                case hQ_80 => exact fun _ _ _ h => h
                                case hw_80 => rfl
                                case hS_80 => assumption
                                case hy_80 => (intro w hSw; (try dsimp only at hSw); go_simp; try with_reducible rfl)
                                try simp only [Act.put, List.setIfInBounds_toArray, List.set_cons_zero, List.set_cons_succ]
                                refine anyZ_free (i := 5) (oi := ?oi_81) (v := ?v_81) ?hi_81 ?hs_81 ?hf_81 ?hr_81 ?hQ_81 (Or.inl ⟨?hw_81, ?hy_81⟩) ?hrest_81
                                case hi_81 => (simp only [List.getElem?_toArray, List.getElem?_cons_succ, List.getElem?_cons_zero]; exact rfl)
                                case hs_81 => kernel_rfl
                                case hf_81 => kernel_rfl
                                case hr_81 => kernel_rfl
                                case hQ_81 => exact fun _ _ _ h => h
                                case hw_81 => rfl
                                case hy_81 => (intro w _; go_simp; try with_reducible rfl)
                                try simp only [Act.put, List.setIfInBounds_toArray, List.set_cons_zero, List.set_cons_succ]
                                refine anyZ_take (i := 6) (oi := ?oi_82) (v := ?v_82) ?hi_82 ?hz_82 ?hs_82 ?hf_82 ?hr_82 ?hQ_82 (Or.inl ⟨?hw_82, ?hy_82⟩) ?hS_82 ?hrest_82
                                case hi_82 => (simp only [List.getElem?_toArray, List.getElem?_cons_succ, List.getElem?_cons_zero]; exact rfl)
                                case hz_82 => kernel_rfl
                                case hs_82 => kernel_rfl
                                case hf_82 => kernel_rfl
                                case hr_82 => kernel_rfl
                                case hQ_82 => exact fun _ _ _ h => h
                                case hw_82 => rfl
                                case hS_82 => assumption
                                case hy_82 => (intro w hSw; (try dsimp only at hSw); go_simp; try with_reducible rfl)
                                try simp only [Act.put, List.setIfInBounds_toArray, List.set_cons_zero, List.set_cons_succ]
                                refine anyZ_free (i := 7) (oi := ?oi_83) (v := ?v_83) ?hi_83 ?hs_83 ?hf_83 ?hr_83 ?hQ_83 (Or.inl ⟨?hw_83, ?hy_83⟩) ?hrest_83
                                case hi_83 => (simp only [List.getElem?_toArray, List.getElem?_cons_succ, List.getElem?_cons_zero]; exact rfl)
                                case hs_83 => kernel_rfl
                                case hf_83 => kernel_rfl
                                case hr_83 => kernel_rfl
                                case hQ_83 => exact fun _ _ _ h => h
                                case hw_83 => rfl
                                case hy_83 => (intro w _; go_simp; try with_reducible rfl)
                                try simp only [Act.put, List.setIfInBounds_toArray, List.set_cons_zero, List.set_cons_succ]
                                refine anyZ_free (i := 8) (oi := ?oi_84) (v := ?v_84) ?hi_84 ?hs_84 ?hf_84 ?hr_84 ?hQ_84 (Or.inl ⟨?hw_84, ?hy_84⟩) ?hrest_84
                                case hi_84 => (simp only [List.getElem?_toArray, List.getElem?_cons_succ, List.getElem?_cons_zero]; exact rfl)
                                case hs_84 => kernel_rfl
                                case hf_84 => kernel_rfl
                                case hr_84 => kernel_rfl
                                case hQ_84 => exact fun _ _ _ h => h
                                case hw_84 => rfl
                                case hy_84 => (intro w _; go_simp; try with_reducible rfl)
                                try simp only [Act.put, List.setIfInBounds_toArray, List.set_cons_zero, List.set_cons_succ]
                                refine anyZ_free (i := 9) (oi := ?oi_85) (v := ?v_85) ?hi_85 ?hs_85 ?hf_85 ?hr_85 ?hQ_85 (Or.inl ⟨?hw_85, ?hy_85⟩) ?hrest_85
                                case hi_85 => (simp only [List.getElem?_toArray, List.getElem?_cons_succ, List.getElem?_cons_zero]; exact rfl)
                                case hs_85 => kernel_rfl
                                case hf_85 => kernel_rfl
                                case hr_85 => kernel_rfl
                                case hQ_85 => exact fun _ _ _ h => h
                                case hw_85 => rfl
                                case hy_85 => (intro w _; go_simp; try with_reducible rfl)
                                try simp only [Act.put, List.setIfInBounds_toArray, List.set_cons_zero, List.set_cons_succ]
                                refine anyZ_take (i := 10) (oi := ?oi_86) (v := ?v_86) ?hi_86 ?hz_86 ?hs_86 ?hf_86 ?hr_86 ?hQ_86 (Or.inl ⟨?hw_86, ?hy_86⟩) ?hS_86 ?hrest_86
                                case hi_86 => (simp only [List.getElem?_toArray, List.getElem?_cons_succ, List.getElem?_cons_zero]; exact rfl)
                                case hz_86 => kernel_rfl
                                case hs_86 => kernel_rfl
                                case hf_86 => kernel_rfl
                                case hr_86 => kernel_rfl
                                case hQ_86 => exact fun _ _ _ h => h
                                case hw_86 => rfl
                                case hS_86 => assumption
                                case hy_86 => (intro w hSw; (try dsimp only at hSw); go_simp; try with_reducible rfl)
                                try simp only [Act.put, List.setIfInBounds_toArray, List.set_cons_zero, List.set_cons_succ]
                                refine anyZ_free (i := 11) (oi := ?oi_87) (v := ?v_87) ?hi_87 ?hs_87 ?hf_87 ?hr_87 ?hQ_87 (Or.inl ⟨?hw_87, ?hy_87⟩) ?hrest_87
                                case hi_87 => (simp only [List.getElem?_toArray, List.getElem?_cons_succ, List.getElem?_cons_zero]; exact rfl)
                                case hs_87 => kernel_rfl
                                case hf_87 => kernel_rfl
                                case hr_87 => kernel_rfl
                                case hQ_87 => exact fun _ _ _ h => h
                                case hw_87 => rfl
                                case hy_87 => (intro w _; go_simp; try with_reducible rfl)
                                try simp only [Act.put, List.setIfInBounds_toArray, List.set_cons_zero, List.set_cons_succ]
                                refine anyZ_take (i := 12) (oi := ?oi_88) (v := ?v_88) ?hi_88 ?hz_88 ?hs_88 ?hf_88 ?hr_88 ?hQ_88 (Or.inl ⟨?hw_88, ?hy_88⟩) ?hS_88 ?hrest_88
                                case hi_88 => (simp only [List.getElem?_toArray, List.getElem?_cons_succ, List.getElem?_cons_zero]; exact rfl)
                                case hz_88 => kernel_rfl
                                case hs_88 => kernel_rfl
                                case hf_88 => kernel_rfl
                                case hr_88 => kernel_rfl
                                case hQ_88 => exact fun _ _ _ h => h
                                case hw_88 => rfl
                                case hS_88 => assumption
                                case hy_88 => (intro w hSw; (try dsimp only at hSw); go_simp; try with_reducible rfl)
                                try simp only [Act.put, List.setIfInBounds_toArray, List.set_cons_zero, List.set_cons_succ]
                                refine anyZ_ready (rs := [13]) (by kernel_rfl) (by simp) ?_
                                refine (AllZ.cons (o := ?o_89) ?ho_89 (fun K hK => ?st_89) AllZ.nil)
                                case ho_89 => (simp only [List.getElem?_toArray, List.getElem?_cons_succ, List.getElem?_cons_zero]; exact rfl)
                                case st_89 =>
                                  go_simp
                                  (first | (go_at_call 68; first | (with_reducible refine (cm _).mono ?_; rintro e w_cm ⟨rfl, b_cm⟩; have z_cm := b_cm.size; (try simp only [szs] at z_cm))))
                                  refine hK.out _ _ (by ((try dsimp only); (first | exact ⟨tv5.out.drew, se, sf, tm5.out.drew.c _ le5, tm5.out.drew.c _ lf5⟩ | exact ⟨tv5.out.drew.below b_cm tv5.out.drew.lt, by rw [(bcell b_cm).1 R _ ts5.out.drew.lt]; exact se, by rw [(bcell b_cm).1 R _ ts5.out.drew.lt]; exact sf, (tm5.out.drew.below b_cm tm5.out.drew.lt).c _ le5, (tm5.out.drew.below b_cm tm5.out.drew.lt).c _ lf5⟩))) (fun hHeld => ?_)
                                  clear hK K
                                  try simp only [Act.put, List.setIfInBounds_toArray, List.set_cons_zero, List.set_cons_succ]
                                  refine anyZ_ready (rs := [14]) (by kernel_rfl) (by simp) ?_
                                  refine (AllZ.last (o := ?o_90) ?ho_90 (by rfl) (fun K hK => ?st_90) AllZ.nil)
                                  case ho_90 => (simp only [List.getElem?_toArray, List.getElem?_cons_succ, List.getElem?_cons_zero]; exact rfl)
                                  case st_90 =>
                                    rw [if_pos (by rfl)]; refine wp_storeArr 81 _ _ rfl V rfl V6 rfl (tv5.out.drew.below b_cm tv5.out.drew.lt) (by kernel_rfl) ?_; intro W12 hWn tv6 zWn
                                    refine hK.out _ _ ?_
                                    clear hK K
                                    try simp only [Act.put, List.setIfInBounds_toArray, List.set_cons_zero, List.set_cons_succ]
                                    refine anyZ_done (by kernel_rfl) ?_ _
                                    refine NoPanic.normal ?_
                                    have th6 : Hid (Arr W12 .u32 N 8 h) := by rw [hWn.out]; exact (th5.out.drew.below b_cm th5.out.drew.lt).farCells (by omega) _ _
                                    have tr6 : Hid (Arr W12 .u32 (N + 1) 8 (fun _ => 0)) := by rw [hWn.out]; exact (tr5.out.drew.below b_cm tr5.out.drew.lt).farCells (by omega) _ _
                                    have tm6 : Hid (Arr W12 .u32 M 16 m) := by rw [hWn.out]; exact (tm5.out.drew.below b_cm tm5.out.drew.lt).farCells (by omega) _ _
                                    have ts6 : Hid (Arr W12 .i64 R 16 (Ob.sig r)) := by rw [hWn.out]; exact (ts5.out.drew.below b_cm ts5.out.drew.lt).farCells (by omega) _ _
                                    have hB6 : Below N w W12 := by rw [hWn.out]; exact below_setCells (below_via b_cm hB5.drew (by have := th5.out.drew.lt; omega)) (by omega) _ _
                                    clear hHeld hWn zWn b_cm z_cm cm se sf ie je ig jg tv5 th5 tr5 tm5 ts5 hB5 hV6 hv5 hs5 he5 hf5 le5 lf5
                                    -- mixing 6
                                    obtain ⟨e6, he6⟩ : ∃ e, Hid (Ob.sig r 12 = e) := ⟨_, rfl⟩
                                    obtain ⟨f6, hf6⟩ : ∃ e, Hid (Ob.sig r 13 = e) := ⟨_, rfl⟩
                                    have le6 : e6 < 16 := by rw [← he6.out]; exact Ob.sig_lt hlt (by decide)
                                    have lf6 : f6 < 16 := by rw [← hf6.out]; exact Ob.sig_lt hlt (by decide)
                                    obtain ⟨V7, hV7⟩ : ∃ V, Hid (Ob.mixN V6 2 7 8 13 (m e6) (m f6) = V) := ⟨_, rfl⟩
                                    have hv7 : Hid (Ob.Words32 V7) := by rw [← hV7.out]; exact Ob.mixN_words hv6.out _ _ _ _ _ _
                                    have hs7 : Hid (Ob.roundN v' m r 7 = V7) := by
                                      show _ = _
                                      rw [← hV7.out, ← hs6.out, ← he6.out, ← hf6.out]
                                      rfl
                                    have cm : ∀ w, Calls Tryd.prog 68 #[.agg (arrL .u32 V6 16).toArray, .int .i64 2, .int .i64 7, .int .i64 8, .int .i64 13, .int .u32 (m e6 : Nat), .int .u32 (m f6 : Nat)] w fun e' w' => e' = .returned (.agg (arrL .u32 V7 16).toArray) ∧ Below w.heap.size w w' := fun w => by
                                      have q := rmix_core V6 hv6.out 2 7 8 13 (m e6) (m f6) (by decide) (by decide) (by decide) (by decide) (hm.out _) (hm.out _) w
                                      rw [hV7.out] at q
                                      exact q
                                    have se : W12.drew.cell? ⟨R, 12, none⟩ = some (.int .i64 (e6 : Nat)) := by rw [← he6.out]; exact ts6.out.drew.c 12 (by decide)
                                    have sf : W12.drew.cell? ⟨R, 13, none⟩ = some (.int .i64 (f6 : Nat)) := by rw [← hf6.out]; exact ts6.out.drew.c 13 (by decide)
                                    have ie : (e6 : Int) < 16 := by omega
                                    have je : (0 : Int) ≤ (e6 : Int) := by omega
                                    have ig : (f6 : Int) < 16 := by omega
                                    have jg : (0 : Int) ≤ (f6 : Int) := by omega
                                    go_upto_region 23 with (fail)
                                    refine wp_region_noPanic ?_
                                    refine region_lastly (S := (fun w' => Arr w' .u32 V 16 V6 ∧ w'.cell? ⟨R, 12, none⟩ = some (.int .i64 (e6 : Nat)) ∧ w'.cell? ⟨R, 13, none⟩ = some (.int .i64 (f6 : Nat)) ∧ w'.cell? ⟨M, e6, none⟩ = some (.int .u32 (m e6 : Nat)) ∧ w'.cell? ⟨M, f6, none⟩ = some (.int .u32 (m f6 : Nat)))) [14] (by kernel_rfl) (by ((try dsimp only); (first | exact ⟨tv6.out.drew, se, sf, tm6.out.drew.c _ le6, tm6.out.drew.c _ lf6⟩ | exact ⟨tv6.out.drew.below b_cm tv6.out.drew.lt, by rw [(bcell b_cm).1 R _ ts6.out.drew.lt]; exact se, by rw [(bcell b_cm).1 R _ ts6.out.drew.lt]; exact sf, (tm6.out.drew.below b_cm tm6.out.drew.lt).c _ le6, (tm6.out.drew.below b_cm tm6.out.drew.lt).c _ lf6⟩))) (fun hHeld => ?_)
                                    refine anyZ_take (i := 0) (oi := ?oi_91) (v := .agg (arrL .u32 V6 16).toArray) ?hi_91 ?hz_91 ?hs_91 ?hf_91 ?hr_91 ?hQ_91 ?hy_91 ?hS_91 ?hrest_91
                                    case hi_91 => (simp only [List.getElem?_toArray, List.getElem?_cons_succ, List.getElem?_cons_zero]; exact rfl)
                                    case hz_91 => kernel_rfl
                                    case hs_91 => kernel_rfl
                                    case hf_91 => kernel_rfl
                                    case hr_91 => kernel_rfl
                                    case hQ_91 => exact fun _ _ _ h => h
                                    case hS_91 => assumption
                                    case hy_91 => (refine yieldsArr (k := .u32) (n := 16) (v := V6) ?_ 81 (.tmp 11) ?_ V ?_ ?_ Tryd.underlying81 ?_ ?_; (focus rfl); (focus rfl); (focus rfl); (focus exact fun w h => And.left h); (focus rfl); kernel_rfl)
                                    try simp only [Act.put, List.setIfInBounds_toArray, List.set_cons_zero, List.set_cons_succ]
                                    refine anyZ_free (i := 1) (oi := ?oi_92) (v := ?v_92) ?hi_92 ?hs_92 ?hf_92 ?hr_92 ?hQ_92 (Or.inl ⟨?hw_92, ?hy_92⟩) ?hrest_92
                                    case hi_92 => (simp only [List.getElem?_toArray, List.getElem?_cons_succ, List.getElem?_cons_zero]; exact rfl)
                                    case hs_92 => kernel_rfl
                                    case hf_92 => kernel_rfl
                                    case hr_92 => kernel_rfl
                                    case hQ_92 => exact fun _ _ _ h => h
                                    case hw_92 => rfl
                                    case hy_92 => (intro w _; go_simp; try with_reducible rfl)
                                    try simp only [Act.put, List.setIfInBounds_toArray, List.set_cons_zero, List.set_cons_succ]
                                    refine anyZ_free (i := 2) (oi := ?oi_93) (v := ?v_93) ?hi_93 ?hs_93 ?hf_93 ?hr_93 ?hQ_93 (Or.inl ⟨?hw_93, ?hy_93⟩) ?hrest_93
                                    case hi_93 => (simp only [List.getElem?_toArray, List.getElem?_cons_succ, List.getElem?_cons_zero]; exact rfl)
                                    case hs_93 => kernel_rfl
                                    case hf_93 => kernel_rfl
                                    case hr_93 => kernel_rfl
                                    case hQ_93 => exact fun _ _ _ h => h
                                    case hw_93 => rfl
                                    case hy_93 => (intro w _; go_simp; try with_reducible rfl)
                                    try simp only [Act.put, List.setIfInBounds_toArray, List.set_cons_zero, List.set_cons_succ]
                                    refine anyZ_free (i := 3) (oi := ?oi_94) (v := ?v_94) ?hi_94 ?hs_94 ?hf_94 ?hr_94 ?hQ_94 (Or.inl ⟨?hw_94, ?hy_94⟩) ?hrest_94
                                    case hi_94 => (simp only [List.getElem?_toArray, List.getElem?_cons_succ, List.getElem?_cons_zero]; exact rfl)
                                    case hs_94 => kernel_rfl
                                    case hf_94 => kernel_rfl
                                    case hr_94 => kernel_rfl
                                    case hQ_94 => exact fun _ _ _ h => h
                                    case hw_94 => rfl
                                    case hy_94 => (intro w _; go_simp; try with_reducible rfl)
                                    try simp only [Act.put, List.setIfInBounds_toArray, List.set_cons_zero, List.set_cons_succ]
                                    refine anyZ_take (i := 4) (oi := ?oi_95) (v := ?v_95) ?hi_95 ?hz_95 ?hs_95 ?hf_95 ?hr_95 ?hQ_95 (Or.inl ⟨?hw_95, ?hy_95⟩) ?hS_95 ?hrest_95
                                    case hi_95 => (simp only [List.getElem?_toArray, List.getElem?_cons_succ, List.getElem?_cons_zero]; exact rfl)
                                    case hz_95 => kernel_rfl
                                    case hs_95 => kernel_rfl
                                    case hf_95 => kernel_rfl
                                    case hr_95 => kernel_rfl
                                    case hQ_95 => exact fun _ _ _ h => h
                                    case hw_95 => rfl
                                    case hS_95 => assumption
                                    case hy_95 => (intro w hSw; (try dsimp only at hSw); go_simp; try with_reducible rfl)
                                    try simp only [Act.put, List.setIfInBounds_toArray, List.set_cons_zero, List.set_cons_succ]
                                    refine anyZ_free (i := 5) (oi := ?oi_96) (v := ?v_96) ?hi_96 ?hs_96 ?hf_96 ?hr_96 ?hQ_96 (Or.inl ⟨?hw_96, ?hy_96⟩) ?hrest_96
                                    case hi_96 => (simp only [List.getElem?_toArray, List.getElem?_cons_succ, List.getElem?_cons_zero]; exact rfl)
                                    case hs_96 => kernel_rfl
                                    case hf_96 => kernel_rfl
                                    case hr_96 => kernel_rfl
                                    case hQ_96 => exact fun _ _ _ h => h
                                    case hw_96 => rfl
                                    case hy_96 => (intro w _; go_simp; try with_reducible rfl)
                                    try simp only [Act.put, List.setIfInBounds_toArray, List.set_cons_zero, List.set_cons_succ]
                                    refine anyZ_take (i := 6) (oi := ?oi_97) (v := ?v_97) ?hi_97 ?hz_97 ?hs_97 ?hf_97 ?hr_97 ?hQ_97 (Or.inl ⟨?hw_97, ?hy_97⟩) ?hS_97 ?hrest_97
                                    case hi_97 => (simp only [List.getElem?_toArray, List.getElem?_cons_succ, List.getElem?_cons_zero]; exact rfl)
                                    case hz_97 => kernel_rfl
                                    case hs_97 => kernel_rfl
                                    case hf_97 => kernel_rfl
                                    case hr_97 => kernel_rfl
                                    case hQ_97 => exact fun _ _ _ h => h
                                    case hw_97 => rfl
                                    case hS_97 => assumption
                                    case hy_97 => (intro w hSw; (try dsimp only at hSw); go_simp; try with_reducible rfl)
                                    try simp only [Act.put, List.setIfInBounds_toArray, List.set_cons_zero, List.set_cons_succ]
                                    refine anyZ_free (i := 7) (oi := ?oi_98) (v := ?v_98) ?hi_98 ?hs_98 ?hf_98 ?hr_98 ?hQ_98 (Or.inl ⟨?hw_98, ?hy_98⟩) ?hrest_98
                                    case hi_98 => (simp only [List.getElem?_toArray, List.getElem?_cons_succ, List.getElem?_cons_zero]; exact rfl)
                                    case hs_98 => kernel_rfl
                                    case hf_98 => kernel_rfl
                                    case hr_98 => kernel_rfl
                                    case hQ_98 => exact fun _ _ _ h => h
                                    case hw_98 => rfl
                                    case hy_98 => (intro w _; go_simp; try with_reducible rfl)
                                    try simp only [Act.put, List.setIfInBounds_toArray, List.set_cons_zero, List.set_cons_succ]
                                    refine anyZ_free (i := 8) (oi := ?oi_99) (v := ?v_99) ?hi_99 ?hs_99 ?hf_99 ?hr_99 ?hQ_99 (Or.inl ⟨?hw_99, ?hy_99⟩) ?hrest_99
                                    case hi_99 => (simp only [List.getElem?_toArray, List.getElem?_cons_succ, List.getElem?_cons_zero]; exact rfl)
                                    case hs_99 => kernel_rfl
                                    case hf_99 => kernel_rfl
                                    case hr_99 => kernel_rfl
                                    case hQ_99 => exact fun _ _ _ h => h
                                    case hw_99 => rfl
                                    case hy_99 => (intro w _; go_simp; try with_reducible rfl)
                                    try simp only [Act.put, List.setIfInBounds_toArray, List.set_cons_zero, List.set_cons_succ]
                                    refine anyZ_free (i := 9) (oi := ?oi_100) (v := ?v_100) ?hi_100 ?hs_100 ?hf_100 ?hr_100 ?hQ_100 (Or.inl ⟨?hw_100, ?hy_100⟩) ?hrest_100
                                    case hi_100 => (simp only [List.getElem?_toArray, List.getElem?_cons_succ, List.getElem?_cons_zero]; exact rfl)
                                    case hs_100 => kernel_rfl
                                    case hf_100 => kernel_rfl
                                    case hr_100 => kernel_rfl
                                    case hQ_100 => exact fun _ _ _ h => h
                                    case hw_100 => rfl
                                    case hy_100 => (intro w _; go_simp; try with_reducible rfl)
                                    try simp only [Act.put, List.setIfInBounds_toArray, List.set_cons_zero, List.set_cons_succ]
                                    refine anyZ_take (i := 10) (oi := ?oi_101) (v := ?v_101) ?hi_101 ?hz_101 ?hs_101 ?hf_101 ?hr_101 ?hQ_101 (Or.inl ⟨?hw_101, ?hy_101⟩) ?hS_101 ?hrest_101
                                    case hi_101 => (simp only [List.getElem?_toArray, List.getElem?_cons_succ, List.getElem?_cons_zero]; exact rfl)
                                    case hz_101 => kernel_rfl
                                    case hs_101 => kernel_rfl
                                    case hf_101 => kernel_rfl
                                    case hr_101 => kernel_rfl
                                    case hQ_101 => exact fun _ _ _ h => h
                                    case hw_101 => rfl
                                    case hS_101 => assumption
                                    case hy_101 => (intro w hSw; (try dsimp only at hSw); go_simp; try with_reducible rfl)
                                    try simp only [Act.put, List.setIfInBounds_toArray, List.set_cons_zero, List.set_cons_succ]
                                    refine anyZ_free (i := 11) (oi := ?oi_102) (v := ?v_102) ?hi_102 ?hs_102 ?hf_102 ?hr_102 ?hQ_102 (Or.inl ⟨?hw_102, ?hy_102⟩) ?hrest_102
                                    case hi_102 => (simp only [List.getElem?_toArray, List.getElem?_cons_succ, List.getElem?_cons_zero]; exact rfl)
                                    case hs_102 => kernel_rfl
                                    case hf_102 => kernel_rfl
                                    case hr_102 => kernel_rfl
                                    case hQ_102 => exact fun _ _ _ h => h
                                    case hw_102 => rfl
                                    case hy_102 => (intro w _; go_simp; try with_reducible rfl)
                                    try simp only [Act.put, List.setIfInBounds_toArray, List.set_cons_zero, List.set_cons_succ]
                                    refine anyZ_take (i := 12) (oi := ?oi_103) (v := ?v_103) ?hi_103 ?hz_103 ?hs_103 ?hf_103 ?hr_103 ?hQ_103 (Or.inl ⟨?hw_103, ?hy_103⟩) ?hS_103 ?hrest_103
                                    case hi_103 => (simp only [List.getElem?_toArray, List.getElem?_cons_succ, List.getElem?_cons_zero]; exact rfl)
                                    case hz_103 => kernel_rfl
                                    case hs_103 => kernel_rfl
                                    case hf_103 => kernel_rfl
                                    case hr_103 => kernel_rfl
                                    case hQ_103 => exact fun _ _ _ h => h
                                    case hw_103 => rfl
                                    case hS_103 => assumption
                                    case hy_103 => (intro w hSw; (try dsimp only at hSw); go_simp; try with_reducible rfl)
                                    try simp only [Act.put, List.setIfInBounds_toArray, List.set_cons_zero, List.set_cons_succ]
                                    refine anyZ_ready (rs := [13]) (by kernel_rfl) (by simp) ?_
                                    refine (AllZ.cons (o := ?o_104) ?ho_104 (fun K hK => ?st_104) AllZ.nil)
                                    case ho_104 => (simp only [List.getElem?_toArray, List.getElem?_cons_succ, List.getElem?_cons_zero]; exact rfl)
                                    case st_104 =>
                                      go_simp
                                      (first | (go_at_call 68; first | (with_reducible refine (cm _).mono ?_; rintro e w_cm ⟨rfl, b_cm⟩; have z_cm := b_cm.size; (try simp only [szs] at z_cm))))
                                      refine hK.out _ _ (by ((try dsimp only); (first | exact ⟨tv6.out.drew, se, sf, tm6.out.drew.c _ le6, tm6.out.drew.c _ lf6⟩ | exact ⟨tv6.out.drew.below b_cm tv6.out.drew.lt, by rw [(bcell b_cm).1 R _ ts6.out.drew.lt]; exact se, by rw [(bcell b_cm).1 R _ ts6.out.drew.lt]; exact sf, (tm6.out.drew.below b_cm tm6.out.drew.lt).c _ le6, (tm6.out.drew.below b_cm tm6.out.drew.lt).c _ lf6⟩))) (fun hHeld => ?_)
                                      clear hK K
                                      try simp only [Act.put, List.setIfInBounds_toArray, List.set_cons_zero, List.set_cons_succ]
                                      refine anyZ_ready (rs := [14]) (by kernel_rfl) (by simp) ?_
                                      refine (AllZ.last (o := ?o_105) ?ho_105 (by rfl) (fun K hK => ?st_105) AllZ.nil)
                                      case ho_105 => (simp only [List.getElem?_toArray, List.getElem?_cons_succ, List.getElem?_cons_zero]; exact rfl)
                                      case st_105 =>
                                        rw [if_pos (by rfl)]; refine wp_storeArr 81 _ _ rfl V rfl V7 rfl (tv6.out.drew.below b_cm tv6.out.drew.lt) (by kernel_rfl) ?_; intro W13 hWn tv7 zWn
                                        refine hK.out _ _ ?_
                                        clear hK K
                                        try simp only [Act.put, List.setIfInBounds_toArray, List.set_cons_zero, List.set_cons_succ]
                                        refine anyZ_done (by kernel_rfl) ?_ _
                                        refine NoPanic.normal ?_
                                        have th7 : Hid (Arr W13 .u32 N 8 h) := by rw [hWn.out]; exact (th6.out.drew.below b_cm th6.out.drew.lt).farCells (by omega) _ _
                                        have tr7 : Hid (Arr W13 .u32 (N + 1) 8 (fun _ => 0)) := by rw [hWn.out]; exact (tr6.out.drew.below b_cm tr6.out.drew.lt).farCells (by omega) _ _
                                        have tm7 : Hid (Arr W13 .u32 M 16 m) := by rw [hWn.out]; exact (tm6.out.drew.below b_cm tm6.out.drew.lt).farCells (by omega) _ _
                                        have ts7 : Hid (Arr W13 .i64 R 16 (Ob.sig r)) := by rw [hWn.out]; exact (ts6.out.drew.below b_cm ts6.out.drew.lt).farCells (by omega) _ _
                                        have hB7 : Below N w W13 := by rw [hWn.out]; exact below_setCells (below_via b_cm hB6.drew (by have := th6.out.drew.lt; omega)) (by omega) _ _
                                        clear hHeld hWn zWn b_cm z_cm cm se sf ie je ig jg tv6 th6 tr6 tm6 ts6 hB6 hV7 hv6 hs6 he6 hf6 le6 lf6
                                        -- mixing 7
                                        obtain ⟨e7, he7⟩ : ∃ e, Hid (Ob.sig r 14 = e) := ⟨_, rfl⟩
                                        obtain ⟨f7, hf7⟩ : ∃ e, Hid (Ob.sig r 15 = e) := ⟨_, rfl⟩
                                        have le7 : e7 < 16 := by rw [← he7.out]; exact Ob.sig_lt hlt (by decide)
                                        have lf7 : f7 < 16 := by rw [← hf7.out]; exact Ob.sig_lt hlt (by decide)
                                        obtain ⟨V8, hV8⟩ : ∃ V, Hid (Ob.mixN V7 3 4 9 14 (m e7) (m f7) = V) := ⟨_, rfl⟩
                                        have hv8 : Hid (Ob.Words32 V8) := by rw [← hV8.out]; exact Ob.mixN_words hv7.out _ _ _ _ _ _
                                        have hs8 : Hid (Ob.roundN v' m r 8 = V8) := by
                                          show _ = _
                                          rw [← hV8.out, ← hs7.out, ← he7.out, ← hf7.out]
                                          rfl
                                        have cm : ∀ w, Calls Tryd.prog 68 #[.agg (arrL .u32 V7 16).toArray, .int .i64 3, .int .i64 4, .int .i64 9, .int .i64 14, .int .u32 (m e7 : Nat), .int .u32 (m f7 : Nat)] w fun e' w' => e' = .returned (.agg (arrL .u32 V8 16).toArray) ∧ Below w.heap.size w w' := fun w => by
                                          have q := rmix_core V7 hv7.out 3 4 9 14 (m e7) (m f7) (by decide) (by decide) (by decide) (by decide) (hm.out _) (hm.out _) w
                                          rw [hV8.out] at q
                                          exact q
                                        have se : W13.drew.cell? ⟨R, 14, none⟩ = some (.int .i64 (e7 : Nat)) := by rw [← he7.out]; exact ts7.out.drew.c 14 (by decide)
                                        have sf : W13.drew.cell? ⟨R, 15, none⟩ = some (.int .i64 (f7 : Nat)) := by rw [← hf7.out]; exact ts7.out.drew.c 15 (by decide)
                                        have ie : (e7 : Int) < 16 := by omega
                                        have je : (0 : Int) ≤ (e7 : Int) := by omega
                                        have ig : (f7 : Int) < 16 := by omega
                                        have jg : (0 : Int) ≤ (f7 : Int) := by omega
                                        go_upto_region 24 with (fail)
                                        refine wp_region_noPanic ?_
                                        refine region_lastly (S := (fun w' => Arr w' .u32 V 16 V7 ∧ w'.cell? ⟨R, 14, none⟩ = some (.int .i64 (e7 : Nat)) ∧ w'.cell? ⟨R, 15, none⟩ = some (.int .i64 (f7 : Nat)) ∧ w'.cell? ⟨M, e7, none⟩ = some (.int .u32 (m e7 : Nat)) ∧ w'.cell? ⟨M, f7, none⟩ = some (.int .u32 (m f7 : Nat)))) [14] (by kernel_rfl) (by ((try dsimp only); (first | exact ⟨tv7.out.drew, se, sf, tm7.out.drew.c _ le7, tm7.out.drew.c _ lf7⟩ | exact ⟨tv7.out.drew.below b_cm tv7.out.drew.lt, by rw [(bcell b_cm).1 R _ ts7.out.drew.lt]; exact se, by rw [(bcell b_cm).1 R _ ts7.out.drew.lt]; exact sf, (tm7.out.drew.below b_cm tm7.out.drew.lt).c _ le7, (tm7.out.drew.below b_cm tm7.out.drew.lt).c _ lf7⟩))) (fun hHeld => ?_)
                                        refine anyZ_take (i := 0) (oi := ?oi_106) (v := .agg (arrL .u32 V7 16).toArray) ?hi_106 ?hz_106 ?hs_106 ?hf_106 ?hr_106 ?hQ_106 ?hy_106 ?hS_106 ?hrest_106
                                        case hi_106 => (simp only [List.getElem?_toArray, List.getElem?_cons_succ, List.getElem?_cons_zero]; exact rfl)
                                        case hz_106 => kernel_rfl
                                        case hs_106 => kernel_rfl
                                        case hf_106 => kernel_rfl
                                        case hr_106 => kernel_rfl
                                        case hQ_106 => exact fun _ _ _ h => h
                                        case hS_106 => assumption
                                        case hy_106 => (refine yieldsArr (k := .u32) (n := 16) (v := V7) ?_ 81 (.tmp 11) ?_ V ?_ ?_ Tryd.underlying81 ?_ ?_; (focus rfl); (focus rfl); (focus rfl); (focus exact fun w h => And.left h); (focus rfl); kernel_rfl)
                                        try simp only [Act.put, List.setIfInBounds_toArray, List.set_cons_zero, List.set_cons_succ]
                                        refine anyZ_free (i := 1) (oi := ?oi_107) (v := ?v_107) ?hi_107 ?hs_107 ?hf_107 ?hr_107 ?hQ_107 (Or.inl ⟨?hw_107, ?hy_107⟩) ?hrest_107
                                        case hi_107 => (simp only [List.getElem?_toArray, List.getElem?_cons_succ, List.getElem?_cons_zero]; exact rfl)
                                        case hs_107 => kernel_rfl
                                        case hf_107 => kernel_rfl
                                        case hr_107 => kernel_rfl
                                        case hQ_107 => exact fun _ _ _ h => h
                                        case hw_107 => rfl
                                        case hy_107 => (intro w _; go_simp; try with_reducible rfl)
                                        try simp only [Act.put, List.setIfInBounds_toArray, List.set_cons_zero, List.set_cons_succ]
                                        refine anyZ_free (i := 2) (oi := ?oi_108) (v := ?v_108) ?hi_108 ?hs_108 ?hf_108 ?hr_108 ?hQ_108 (Or.inl ⟨?hw_108, ?hy_108⟩) ?hrest_108
                                        case hi_108 => (simp only [List.getElem?_toArray, List.getElem?_cons_succ, List.getElem?_cons_zero]; exact rfl)
                                        case hs_108 => kernel_rfl
                                        case hf_108 => kernel_rfl
                                        case hr_108 => kernel_rfl
                                        case hQ_108 => exact fun _ _ _ h => h
                                        case hw_108 => rfl
                                        case hy_108 => (intro w _; go_simp; try with_reducible rfl)
                                        try simp only [Act.put, List.setIfInBounds_toArray, List.set_cons_zero, List.set_cons_succ]
                                        refine anyZ_free (i := 3) (oi := ?oi_109) (v := ?v_109) ?hi_109 ?hs_109 ?hf_109 ?hr_109 ?hQ_109 (Or.inl ⟨?hw_109, ?hy_109⟩) ?hrest_109
                                        case hi_109 => (simp only [List.getElem?_toArray, List.getElem?_cons_succ, List.getElem?_cons_zero]; exact rfl)
                                        case hs_109 => kernel_rfl
                                        case hf_109 => kernel_rfl
                                        case hr_109 => kernel_rfl
                                        case hQ_109 => exact fun _ _ _ h => h
                                        case hw_109 => rfl
                                        case hy_109 => (intro w _; go_simp; try with_reducible rfl)
                                        try simp only [Act.put, List.setIfInBounds_toArray, List.set_cons_zero, List.set_cons_succ]
                                        refine anyZ_take (i := 4) (oi := ?oi_110) (v := ?v_110) ?hi_110 ?hz_110 ?hs_110 ?hf_110 ?hr_110 ?hQ_110 (Or.inl ⟨?hw_110, ?hy_110⟩) ?hS_110 ?hrest_110
                                        case hi_110 => (simp only [List.getElem?_toArray, List.getElem?_cons_succ, List.getElem?_cons_zero]; exact rfl)
                                        case hz_110 => kernel_rfl
                                        case hs_110 => kernel_rfl
                                        case hf_110 => kernel_rfl
                                        case hr_110 => kernel_rfl
                                        case hQ_110 => exact fun _ _ _ h => h
                                        case hw_110 => rfl
                                        case hS_110 => assumption
                                        case hy_110 => (intro w hSw; (try dsimp only at hSw); go_simp; try with_reducible rfl)
                                        try simp only [Act.put, List.setIfInBounds_toArray, List.set_cons_zero, List.set_cons_succ]
                                        refine anyZ_free (i := 5) (oi := ?oi_111) (v := ?v_111) ?hi_111 ?hs_111 ?hf_111 ?hr_111 ?hQ_111 (Or.inl ⟨?hw_111, ?hy_111⟩) ?hrest_111
                                        case hi_111 => (simp only [List.getElem?_toArray, List.getElem?_cons_succ, List.getElem?_cons_zero]; exact rfl)
                                        case hs_111 => kernel_rfl
                                        case hf_111 => kernel_rfl
                                        case hr_111 => kernel_rfl
                                        case hQ_111 => exact fun _ _ _ h => h
                                        case hw_111 => rfl
                                        case hy_111 => (intro w _; go_simp; try with_reducible rfl)
                                        try simp only [Act.put, List.setIfInBounds_toArray, List.set_cons_zero, List.set_cons_succ]
                                        refine anyZ_take (i := 6) (oi := ?oi_112) (v := ?v_112) ?hi_112 ?hz_112 ?hs_112 ?hf_112 ?hr_112 ?hQ_112 (Or.inl ⟨?hw_112, ?hy_112⟩) ?hS_112 ?hrest_112
                                        case hi_112 => (simp only [List.getElem?_toArray, List.getElem?_cons_succ, List.getElem?_cons_zero]; exact rfl)
                                        case hz_112 => kernel_rfl
                                        case hs_112 => kernel_rfl
                                        case hf_112 => kernel_rfl
                                        case hr_112 => kernel_rfl
                                        case hQ_112 => exact fun _ _ _ h => h
                                        case hw_112 => rfl
                                        case hS_112 => assumption
                                        case hy_112 => (intro w hSw; (try dsimp only at hSw); go_simp; try with_reducible rfl)
                                        try simp only [Act.put, List.setIfInBounds_toArray, List.set_cons_zero, List.set_cons_succ]
                                        refine anyZ_free (i := 7) (oi := ?oi_113) (v := ?v_113) ?hi_113 ?hs_113 ?hf_113 ?hr_113 ?hQ_113 (Or.inl ⟨?hw_113, ?hy_113⟩) ?hrest_113
                                        case hi_113 => (simp only [List.getElem?_toArray, List.getElem?_cons_succ, List.getElem?_cons_zero]; exact rfl)
                                        case hs_113 => kernel_rfl
                                        case hf_113 => kernel_rfl
                                        case hr_113 => kernel_rfl
                                        case hQ_113 => exact fun _ _ _ h => h
                                        case hw_113 => rfl
                                        case hy_113 => (intro w _; go_simp; try with_reducible rfl)
                                        try simp only [Act.put, List.setIfInBounds_toArray, List.set_cons_zero, List.set_cons_succ]
                                        refine anyZ_free (i := 8) (oi := ?oi_114) (v := ?v_114) ?hi_114 ?hs_114 ?hf_114 ?hr_114 ?hQ_114 (Or.inl ⟨?hw_114, ?hy_114⟩) ?hrest_114
                                        case hi_114 => (simp only [List.getElem?_toArray, List.getElem?_cons_succ, List.getElem?_cons_zero]; exact rfl)
                                        case hs_114 => kernel_rfl
                                        case hf_114 => kernel_rfl
                                        case hr_114 => kernel_rfl
                                        case hQ_114 => exact fun _ _ _ h => h
                                        case hw_114 => rfl
                                        case hy_114 => (intro w _; go_simp; try with_reducible rfl)
                                        try simp only [Act.put, List.setIfInBounds_toArray, List.set_cons_zero, List.set_cons_succ]
                                        refine anyZ_free (i := 9) (oi := ?oi_115) (v := ?v_115) ?hi_115 ?hs_115 ?hf_115 ?hr_115 ?hQ_115 (Or.inl ⟨?hw_115, ?hy_115⟩) ?hrest_115
                                        case hi_115 => (simp only [List.getElem?_toArray, List.getElem?_cons_succ, List.getElem?_cons_zero]; exact rfl)
                                        case hs_115 => kernel_rfl
                                        case hf_115 => kernel_rfl
                                        case hr_115 => kernel_rfl
                                        case hQ_115 => exact fun _ _ _ h => h
                                        case hw_115 => rfl
                                        case hy_115 => (intro w _; go_simp; try with_reducible rfl)
                                        try simp only [Act.put, List.setIfInBounds_toArray, List.set_cons_zero, List.set_cons_succ]
                                        refine anyZ_take (i := 10) (oi := ?oi_116) (v := ?v_116) ?hi_116 ?hz_116 ?hs_116 ?hf_116 ?hr_116 ?hQ_116 (Or.inl ⟨?hw_116, ?hy_116⟩) ?hS_116 ?hrest_116
                                        case hi_116 => (simp only [List.getElem?_toArray, List.getElem?_cons_succ, List.getElem?_cons_zero]; exact rfl)
                                        case hz_116 => kernel_rfl
                                        case hs_116 => kernel_rfl
                                        case hf_116 => kernel_rfl
                                        case hr_116 => kernel_rfl
                                        case hQ_116 => exact fun _ _ _ h => h
                                        case hw_116 => rfl
                                        case hS_116 => assumption
                                        case hy_116 => (intro w hSw; (try dsimp only at hSw); go_simp; try with_reducible rfl)
                                        try simp only [Act.put, List.setIfInBounds_toArray, List.set_cons_zero, List.set_cons_succ]
                                        refine anyZ_free (i := 11) (oi := ?oi_117) (v := ?v_117) ?hi_117 ?hs_117 ?hf_117 ?hr_117 ?hQ_117 (Or.inl ⟨?hw_117, ?hy_117⟩) ?hrest_117
                                        case hi_117 => (simp only [List.getElem?_toArray, List.getElem?_cons_succ, List.getElem?_cons_zero]; exact rfl)
                                        case hs_117 => kernel_rfl
                                        case hf_117 => kernel_rfl
                                        case hr_117 => kernel_rfl
                                        case hQ_117 => exact fun _ _ _ h => h
                                        case hw_117 => rfl
                                        case hy_117 => (intro w _; go_simp; try with_reducible rfl)
                                        try simp only [Act.put, List.setIfInBounds_toArray, List.set_cons_zero, List.set_cons_succ]
                                        refine anyZ_take (i := 12) (oi := ?oi_118) (v := ?v_118) ?hi_118 ?hz_118 ?hs_118 ?hf_118 ?hr_118 ?hQ_118 (Or.inl ⟨?hw_118, ?hy_118⟩) ?hS_118 ?hrest_118
                                        case hi_118 => (simp only [List.getElem?_toArray, List.getElem?_cons_succ, List.getElem?_cons_zero]; exact rfl)
                                        case hz_118 => kernel_rfl
                                        case hs_118 => kernel_rfl
                                        case hf_118 => kernel_rfl
                                        case hr_118 => kernel_rfl
                                        case hQ_118 => exact fun _ _ _ h => h
                                        case hw_118 => rfl
                                        case hS_118 => assumption
                                        case hy_118 => (intro w hSw; (try dsimp only at hSw); go_simp; try with_reducible rfl)
                                        try simp only [Act.put, List.setIfInBounds_toArray, List.set_cons_zero, List.set_cons_succ]
                                        refine anyZ_ready (rs := [13]) (by kernel_rfl) (by simp) ?_
                                        refine (AllZ.cons (o := ?o_119) ?ho_119 (fun K hK => ?st_119) AllZ.nil)
                                        case ho_119 => (simp only [List.getElem?_toArray, List.getElem?_cons_succ, List.getElem?_cons_zero]; exact rfl)
                                        case st_119 =>
                                          go_simp
                                          (first | (go_at_call 68; first | (with_reducible refine (cm _).mono ?_; rintro e w_cm ⟨rfl, b_cm⟩; have z_cm := b_cm.size; (try simp only [szs] at z_cm))))
                                          refine hK.out _ _ (by ((try dsimp only); (first | exact ⟨tv7.out.drew, se, sf, tm7.out.drew.c _ le7, tm7.out.drew.c _ lf7⟩ | exact ⟨tv7.out.drew.below b_cm tv7.out.drew.lt, by rw [(bcell b_cm).1 R _ ts7.out.drew.lt]; exact se, by rw [(bcell b_cm).1 R _ ts7.out.drew.lt]; exact sf, (tm7.out.drew.below b_cm tm7.out.drew.lt).c _ le7, (tm7.out.drew.below b_cm tm7.out.drew.lt).c _ lf7⟩))) (fun hHeld => ?_)
                                          clear hK K
                                          try simp only [Act.put, List.setIfInBounds_toArray, List.set_cons_zero, List.set_cons_succ]
                                          refine anyZ_ready (rs := [14]) (by kernel_rfl) (by simp) ?_
                                          refine (AllZ.last (o := ?o_120) ?ho_120 (by rfl) (fun K hK => ?st_120) AllZ.nil)
                                          case ho_120 => (simp only [List.getElem?_toArray, List.getElem?_cons_succ, List.getElem?_cons_zero]; exact rfl)
                                          case st_120 =>
                                            rw [if_pos (by rfl)]; refine wp_storeArr 81 _ _ rfl V rfl V8 rfl (tv7.out.drew.below b_cm tv7.out.drew.lt) (by kernel_rfl) ?_; intro W14 hWn tv8 zWn
                                            refine hK.out _ _ ?_
                                            clear hK K
                                            try simp only [Act.put, List.setIfInBounds_toArray, List.set_cons_zero, List.set_cons_succ]
                                            refine anyZ_done (by kernel_rfl) ?_ _
                                            refine NoPanic.normal ?_
                                            have th8 : Hid (Arr W14 .u32 N 8 h) := by rw [hWn.out]; exact (th7.out.drew.below b_cm th7.out.drew.lt).farCells (by omega) _ _
                                            have tr8 : Hid (Arr W14 .u32 (N + 1) 8 (fun _ => 0)) := by rw [hWn.out]; exact (tr7.out.drew.below b_cm tr7.out.drew.lt).farCells (by omega) _ _
                                            have tm8 : Hid (Arr W14 .u32 M 16 m) := by rw [hWn.out]; exact (tm7.out.drew.below b_cm tm7.out.drew.lt).farCells (by omega) _ _
                                            have ts8 : Hid (Arr W14 .i64 R 16 (Ob.sig r)) := by rw [hWn.out]; exact (ts7.out.drew.below b_cm ts7.out.drew.lt).farCells (by omega) _ _
                                            have hB8 : Below N w W14 := by rw [hWn.out]; exact below_setCells (below_via b_cm hB7.drew (by have := th7.out.drew.lt; omega)) (by omega) _ _
                                            clear hHeld hWn zWn b_cm z_cm cm se sf ie je ig jg tv7 th7 tr7 tm7 ts7 hB7 hV8 hv7 hs7 he7 hf7 le7 lf7
                                            rw [← hs8.out, ← hnext.out] at tv8
                                            go_wp2
                                            go_roundw
                                            case rel => exact ⟨r + 1, by omega, by go_num, tv8, th8, tr8, tm8, hB8⟩
                                            case measure => (simp only [intOf, Int.toNat_natCast]; omega)
          · obtain rfl : r = 10 := by omega
            go_upto_region 25 with (fail)
            have hv' : Hid (Ob.Words32 (Ob.rounds v m 10)) := Ob.rounds_words hs.out m 10
            obtain ⟨v', hvE'⟩ : ∃ m', Hid (Ob.rounds v m 10 = m') := ⟨_, rfl⟩
            rw [hvE'.out] at tv hv' hend
            have th' : Hid (Arr wr .u32 N 8 (pressI h v' 0)) := by rw [pressI_zero]; exact th.out
            clear th tm
            rw [show ((10 : Nat) : Int) = 10 from rfl]
            go_wp2
            go_loopw [15] (fun s15 wr => ∃ (i : Nat), i ≤ 8 ∧ s15 = .int .i64 (i : Nat) ∧ Hid (Arr wr .u32 N 8 (pressI h v' i)) ∧ Hid (Arr wr .u32 (N + 1) 8 (fun _ => 0)) ∧ Hid (Arr wr .u32 V 16 v') ∧ Below N w wr) (fun s15 _ => 8 - (intOf s15).toNat)
            case atStart => exact ⟨0, by omega, rfl, th', tr, tv, hB⟩
            case round =>
              clear th' tr tv hB
              obtain ⟨i, hi, rfl, th, tr, tv, hB⟩ := hrel
              have l1 := hB.size
              by_cases hi8 : i < 8
              · have p0 := th.out.drew.c i hi8
                have p1 := tv.out.drew.c i (by omega)
                have p2 := tv.out.drew.c (i + 8) (by omega)
                have p3 := th.out.c i hi8
                have p4 := th.out.f i hi8
                have e0 : pressI h v' i i = h i := by unfold pressI; rw [if_neg (by omega)]
                rw [e0] at p0 p3
                have x1 := xor_u32 (h i) (v' i) (hh'.out i) (hv'.out i)
                have x2 := xor_u32 (h i ^^^ v' i) (v' (i + 8)) (Ob.xor_lt (hh'.out i) (hv'.out i)) (hv'.out (i + 8))
                obtain ⟨Y, hY'⟩ : ∃ Y, Hid (h i ^^^ v' i = Y) := ⟨_, rfl⟩
                obtain ⟨X, hX⟩ : ∃ X, Hid (h i ^^^ (v' i ^^^ v' (i + 8)) = X) := ⟨_, rfl⟩
                rw [Nat.xor_assoc, hX.out, hY'.out] at x2
                rw [hY'.out] at x1
                have i0 : (i : Int) < 8 := by omega
                have i1 : (0 : Int) ≤ (i : Int) := by omega
                have i2 : (i : Int) < 16 := by omega
                have i3 : IntKind.i64.wrap (8 + (i : Int)) = ((i + 8 : Nat) : Int) := by rw [IntKind.wrap_i64]; omega
                have i4 : ((i + 8 : Nat) : Int) < 16 := by omega
                have i5 : (0 : Int) ≤ ((i + 8 : Nat) : Int) := by omega
                obtain ⟨k, hk⟩ : ∃ k, Hid (i + 8 = k) := ⟨_, rfl⟩
                rw [hk.out] at i3 i4 i5 p2 x2
                go_upto_region 28 with (fail)
                refine wp_region_noPanic ?_
                refine region_lastly (S := (fun w' => w'.cell? ⟨N, i, none⟩ = some (.int .u32 (h i : Nat)) ∧ w'.cell? ⟨V, i, none⟩ = some (.int .u32 (v' i : Nat)) ∧ w'.cell? ⟨V, k, none⟩ = some (.int .u32 (v' k : Nat)))) [14] (by kernel_rfl) (by ((try dsimp only); (exact ⟨p0, p1, p2⟩))) (fun hHeld => ?_)
                refine anyZ_free (i := 0) (oi := ?oi_121) (v := ?v_121) ?hi_121 ?hs_121 ?hf_121 ?hr_121 ?hQ_121 (Or.inl ⟨?hw_121, ?hy_121⟩) ?hrest_121
                case hi_121 => (simp only [List.getElem?_toArray, List.getElem?_cons_succ, List.getElem?_cons_zero]; exact rfl)
                case hs_121 => kernel_rfl
                case hf_121 => kernel_rfl
                case hr_121 => kernel_rfl
                case hQ_121 => exact fun _ _ _ h => h
                case hw_121 => rfl
                case hy_121 => (intro w _; go_simp; try with_reducible rfl)
                try simp only [Act.put, List.setIfInBounds_toArray, List.set_cons_zero, List.set_cons_succ]
                refine anyZ_free (i := 1) (oi := ?oi_122) (v := ?v_122) ?hi_122 ?hs_122 ?hf_122 ?hr_122 ?hQ_122 (Or.inl ⟨?hw_122, ?hy_122⟩) ?hrest_122
                case hi_122 => (simp only [List.getElem?_toArray, List.getElem?_cons_succ, List.getElem?_cons_zero]; exact rfl)
                case hs_122 => kernel_rfl
                case hf_122 => kernel_rfl
                case hr_122 => kernel_rfl
                case hQ_122 => exact fun _ _ _ h => h
                case hw_122 => rfl
                case hy_122 => (intro w _; go_simp; try with_reducible rfl)
                try simp only [Act.put, List.setIfInBounds_toArray, List.set_cons_zero, List.set_cons_succ]
                refine anyZ_free (i := 2) (oi := ?oi_123) (v := ?v_123) ?hi_123 ?hs_123 ?hf_123 ?hr_123 ?hQ_123 (Or.inl ⟨?hw_123, ?hy_123⟩) ?hrest_123
                case hi_123 => (simp only [List.getElem?_toArray, List.getElem?_cons_succ, List.getElem?_cons_zero]; exact rfl)
                case hs_123 => kernel_rfl
                case hf_123 => kernel_rfl
                case hr_123 => kernel_rfl
                case hQ_123 => exact fun _ _ _ h => h
                case hw_123 => rfl
                case hy_123 => (intro w _; go_simp; try with_reducible rfl)
                try simp only [Act.put, List.setIfInBounds_toArray, List.set_cons_zero, List.set_cons_succ]
                refine anyZ_take (i := 3) (oi := ?oi_124) (v := ?v_124) ?hi_124 ?hz_124 ?hs_124 ?hf_124 ?hr_124 ?hQ_124 (Or.inl ⟨?hw_124, ?hy_124⟩) ?hS_124 ?hrest_124
                case hi_124 => (simp only [List.getElem?_toArray, List.getElem?_cons_succ, List.getElem?_cons_zero]; exact rfl)
                case hz_124 => kernel_rfl
                case hs_124 => kernel_rfl
                case hf_124 => kernel_rfl
                case hr_124 => kernel_rfl
                case hQ_124 => exact fun _ _ _ h => h
                case hw_124 => rfl
                case hS_124 => assumption
                case hy_124 => (intro w hSw; (try dsimp only at hSw); go_simp; try with_reducible rfl)
                try simp only [Act.put, List.setIfInBounds_toArray, List.set_cons_zero, List.set_cons_succ]
                refine anyZ_free (i := 4) (oi := ?oi_125) (v := ?v_125) ?hi_125 ?hs_125 ?hf_125 ?hr_125 ?hQ_125 (Or.inl ⟨?hw_125, ?hy_125⟩) ?hrest_125
                case hi_125 => (simp only [List.getElem?_toArray, List.getElem?_cons_succ, List.getElem?_cons_zero]; exact rfl)
                case hs_125 => kernel_rfl
                case hf_125 => kernel_rfl
                case hr_125 => kernel_rfl
                case hQ_125 => exact fun _ _ _ h => h
                case hw_125 => rfl
                case hy_125 => (intro w _; go_simp; try with_reducible rfl)
                try simp only [Act.put, List.setIfInBounds_toArray, List.set_cons_zero, List.set_cons_succ]
                refine anyZ_free (i := 5) (oi := ?oi_126) (v := ?v_126) ?hi_126 ?hs_126 ?hf_126 ?hr_126 ?hQ_126 (Or.inl ⟨?hw_126, ?hy_126⟩) ?hrest_126
                case hi_126 => (simp only [List.getElem?_toArray, List.getElem?_cons_succ, List.getElem?_cons_zero]; exact rfl)
                case hs_126 => kernel_rfl
                case hf_126 => kernel_rfl
                case hr_126 => kernel_rfl
                case hQ_126 => exact fun _ _ _ h => h
                case hw_126 => rfl
                case hy_126 => (intro w _; go_simp; try with_reducible rfl)
                try simp only [Act.put, List.setIfInBounds_toArray, List.set_cons_zero, List.set_cons_succ]
                refine anyZ_take (i := 6) (oi := ?oi_127) (v := ?v_127) ?hi_127 ?hz_127 ?hs_127 ?hf_127 ?hr_127 ?hQ_127 (Or.inl ⟨?hw_127, ?hy_127⟩) ?hS_127 ?hrest_127
                case hi_127 => (simp only [List.getElem?_toArray, List.getElem?_cons_succ, List.getElem?_cons_zero]; exact rfl)
                case hz_127 => kernel_rfl
                case hs_127 => kernel_rfl
                case hf_127 => kernel_rfl
                case hr_127 => kernel_rfl
                case hQ_127 => exact fun _ _ _ h => h
                case hw_127 => rfl
                case hS_127 => assumption
                case hy_127 => (intro w hSw; (try dsimp only at hSw); go_simp; try with_reducible rfl)
                try simp only [Act.put, List.setIfInBounds_toArray, List.set_cons_zero, List.set_cons_succ]
                refine anyZ_free (i := 7) (oi := ?oi_128) (v := ?v_128) ?hi_128 ?hs_128 ?hf_128 ?hr_128 ?hQ_128 (Or.inl ⟨?hw_128, ?hy_128⟩) ?hrest_128
                case hi_128 => (simp only [List.getElem?_toArray, List.getElem?_cons_succ, List.getElem?_cons_zero]; exact rfl)
                case hs_128 => kernel_rfl
                case hf_128 => kernel_rfl
                case hr_128 => kernel_rfl
                case hQ_128 => exact fun _ _ _ h => h
                case hw_128 => rfl
                case hy_128 => (intro w _; go_simp; try with_reducible rfl)
                try simp only [Act.put, List.setIfInBounds_toArray, List.set_cons_zero, List.set_cons_succ]
                refine anyZ_free (i := 8) (oi := ?oi_129) (v := ?v_129) ?hi_129 ?hs_129 ?hf_129 ?hr_129 ?hQ_129 (Or.inl ⟨?hw_129, ?hy_129⟩) ?hrest_129
                case hi_129 => (simp only [List.getElem?_toArray, List.getElem?_cons_succ, List.getElem?_cons_zero]; exact rfl)
                case hs_129 => kernel_rfl
                case hf_129 => kernel_rfl
                case hr_129 => kernel_rfl
                case hQ_129 => exact fun _ _ _ h => h
                case hw_129 => rfl
                case hy_129 => (intro w _; go_simp; try with_reducible rfl)
                try simp only [Act.put, List.setIfInBounds_toArray, List.set_cons_zero, List.set_cons_succ]
                refine anyZ_free (i := 9) (oi := ?oi_130) (v := ?v_130) ?hi_130 ?hs_130 ?hf_130 ?hr_130 ?hQ_130 (Or.inl ⟨?hw_130, ?hy_130⟩) ?hrest_130
                case hi_130 => (simp only [List.getElem?_toArray, List.getElem?_cons_succ, List.getElem?_cons_zero]; exact rfl)
                case hs_130 => kernel_rfl
                case hf_130 => kernel_rfl
                case hr_130 => kernel_rfl
                case hQ_130 => exact fun _ _ _ h => h
                case hw_130 => rfl
                case hy_130 => (intro w _; go_simp; try with_reducible rfl)
                try simp only [Act.put, List.setIfInBounds_toArray, List.set_cons_zero, List.set_cons_succ]
                refine anyZ_free (i := 10) (oi := ?oi_131) (v := ?v_131) ?hi_131 ?hs_131 ?hf_131 ?hr_131 ?hQ_131 (Or.inl ⟨?hw_131, ?hy_131⟩) ?hrest_131
                case hi_131 => (simp only [List.getElem?_toArray, List.getElem?_cons_succ, List.getElem?_cons_zero]; exact rfl)
                case hs_131 => kernel_rfl
                case hf_131 => kernel_rfl
                case hr_131 => kernel_rfl
                case hQ_131 => exact fun _ _ _ h => h
                case hw_131 => rfl
                case hy_131 => (intro w _; go_simp; try with_reducible rfl)
                try simp only [Act.put, List.setIfInBounds_toArray, List.set_cons_zero, List.set_cons_succ]
                refine anyZ_take (i := 11) (oi := ?oi_132) (v := ?v_132) ?hi_132 ?hz_132 ?hs_132 ?hf_132 ?hr_132 ?hQ_132 (Or.inl ⟨?hw_132, ?hy_132⟩) ?hS_132 ?hrest_132
                case hi_132 => (simp only [List.getElem?_toArray, List.getElem?_cons_succ, List.getElem?_cons_zero]; exact rfl)
                case hz_132 => kernel_rfl
                case hs_132 => kernel_rfl
                case hf_132 => kernel_rfl
                case hr_132 => kernel_rfl
                case hQ_132 => exact fun _ _ _ h => h
                case hw_132 => rfl
                case hS_132 => assumption
                case hy_132 => (intro w hSw; (try dsimp only at hSw); go_simp; try with_reducible rfl)
                try simp only [Act.put, List.setIfInBounds_toArray, List.set_cons_zero, List.set_cons_succ]
                refine anyZ_free (i := 12) (oi := ?oi_133) (v := ?v_133) ?hi_133 ?hs_133 ?hf_133 ?hr_133 ?hQ_133 (Or.inl ⟨?hw_133, ?hy_133⟩) ?hrest_133
                case hi_133 => (simp only [List.getElem?_toArray, List.getElem?_cons_succ, List.getElem?_cons_zero]; exact rfl)
                case hs_133 => kernel_rfl
                case hf_133 => kernel_rfl
                case hr_133 => kernel_rfl
                case hQ_133 => exact fun _ _ _ h => h
                case hw_133 => rfl
                case hy_133 => (intro w _; go_simp; try with_reducible rfl)
                try simp only [Act.put, List.setIfInBounds_toArray, List.set_cons_zero, List.set_cons_succ]
                refine anyZ_free (i := 13) (oi := ?oi_134) (v := ?v_134) ?hi_134 ?hs_134 ?hf_134 ?hr_134 ?hQ_134 (Or.inl ⟨?hw_134, ?hy_134⟩) ?hrest_134
                case hi_134 => (simp only [List.getElem?_toArray, List.getElem?_cons_succ, List.getElem?_cons_zero]; exact rfl)
                case hs_134 => kernel_rfl
                case hf_134 => kernel_rfl
                case hr_134 => kernel_rfl
                case hQ_134 => exact fun _ _ _ h => h
                case hw_134 => rfl
                case hy_134 => (intro w _; go_simp; try with_reducible rfl)
                try simp only [Act.put, List.setIfInBounds_toArray, List.set_cons_zero, List.set_cons_succ]
                refine anyZ_ready (rs := [14]) (by kernel_rfl) (by simp) ?_
                refine (AllZ.last (o := ?o_135) ?ho_135 (by rfl) (fun K hK => ?st_135) AllZ.nil)
                case ho_135 => (simp only [List.getElem?_toArray, List.getElem?_cons_succ, List.getElem?_cons_zero]; exact rfl)
                case st_135 =>
                  go_simp
                  refine hK.out _ _ ?_
                  clear hK K
                  try simp only [Act.put, List.setIfInBounds_toArray, List.set_cons_zero, List.set_cons_succ]
                  refine anyZ_done (by kernel_rfl) ?_ _
                  refine NoPanic.normal ?_
                  have q : Hid (Arr ((wr.setCell ⟨N, i, none⟩ (.int .u32 (X : Nat))).drew) .u32 N 8 (pressI h v' (i + 1))) := by
                    have q := (th.out.set (i := i) (z := X) hi8).drew
                    rw [← hX.out, pressI_succ, hX.out] at q
                    exact q
                  have tr1 : Hid (Arr ((wr.setCell ⟨N, i, none⟩ (.int .u32 (X : Nat))).drew) .u32 (N + 1) 8 (fun _ => 0)) := (tr.out.far (by omega) _ _).drew
                  have tv1 : Hid (Arr ((wr.setCell ⟨N, i, none⟩ (.int .u32 (X : Nat))).drew) .u32 V 16 v') := (tv.out.far (by omega) _ _).drew
                  have hB1 : Below N w ((wr.setCell ⟨N, i, none⟩ (.int .u32 (X : Nat))).drew) := by (repeat' (first | (with_reducible first | exact Below.refl _ _ | assumption | refine Below.alloc ?_ ?_ _ | refine Below.drew ?_ | refine below_drewN ?_ _ | refine Below.setCell ?_ ?_ _ | refine below_via (by with_reducible assumption) ?_ ?_) | omega | (simp only [szs]; omega) | (simp only [szs] at *; omega)))
                  clear hHeld p0 p1 p2 p3 p4 i2 i3 i4 i5 tv th tr hB x1 x2
                  generalize ((wr.setCell ⟨N, i, none⟩ (.int .u32 (X : Nat))).drew) = W8 at *
                  go_wp2
                  go_roundw
                  case rel => exact ⟨i + 1, by omega, by go_num, q, tr1, tv1, hB1⟩
                  case measure => (simp only [intOf, Int.toNat_natCast]; omega)
              · obtain rfl : i = 8 := by omega
                have t0 : Arr wr .u32 N 8 (Ob.press h (wordAt z) n last) := th.out.congr (fun j hj => by rw [hend.out]; unfold pressI; rw [if_pos hj])
                go_upto_region 29 with (fail)
                go_wp2_with (first | ((with_reducible refine wpList_loadLit t0 ?_ Tryd.underlying65 ?_ ?_ ?_); (focus rfl); (focus rfl); (focus kernel_rfl); simp only [Act.put, List.setIfInBounds_toArray, List.set_cons_zero, List.set_cons_succ]) | ((with_reducible refine wpList_storeLit (Ob.press h (wordAt z) n last) tr.out ?_ ?_ ?_ ?_); (focus rfl); (focus rfl); (focus kernel_rfl); intro W5 hW5_ tW5_ zW5_; try simp only [Act.put, List.setIfInBounds_toArray, List.set_cons_zero, List.set_cons_succ]))
                have hB5 : Below w.heap.size w W5 := by rw [hW5_.out, hN.out]; exact below_setCells hB (by omega) _ _
                have rv := tW5_.out.loadVar Tryd.underlying65 rfl (by kernel_rfl)
                exact bodyPost_ret (v := .agg (arrL .u32 (Ob.press h (wordAt z) n last) 8).toArray) (by simp [results, Tryd.results52, asAddr, rv]) rfl ⟨rfl, hB5⟩
end Go.Proofs.YtdhbkhmknnlmnaaDoor
