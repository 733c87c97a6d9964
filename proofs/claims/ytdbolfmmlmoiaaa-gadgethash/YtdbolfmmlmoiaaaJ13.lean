/-
  Joined texts: The walk of layer 12's statement that lists that are handed in stay, and what Done told too (GadgetStays), over what package gadget's and rank's calls answer. The walks of layer 12's statements, as rows ask for them.
-/
import Derived.Test.YtdbolfmmlmoiaaaJ12
import Derived.Test.YtdbolfmmlmoiaaaJ9
import Derived.Test.YtdbolfmmlmoiaaaJ10
import Derived.Test.YtdbolfmmlmoiaaaJ11

namespace Go.Proofs.Ytdbolfmmlmoiaaa
open Go.RowKit Go.Proofs
set_option linter.unusedVariables false
set_option linter.unusedSimpArgs false
attribute [local go_sem ↓] Go.wp_at_zero Go.wp_at_succ
theorem trm_at {w : World} {base g n cap : Nat} {V : Nat → Int} {K : Nat → Nat} (h : OwnT w base (.slice (some ⟨g, 0, none⟩) n cap) n V K) {i : Nat} (hi : i < n) : w.cell? ⟨g, i * 2, none⟩ = some (.int .i64 (V i)) ∧ w.cell? ⟨g, i * 2 + 1, none⟩ = some (.int .u64 (K i : Nat)) := by
  have h1 := World.ownsRow.cells h (g := g) rfl (i * 2) _ (tals_get V K hi).1
  have h2 := World.ownsRow.cells h (g := g) rfl (i * 2 + 1) _ (tals_get V K hi).2
  rw [addr_add, Nat.zero_add] at h1 h2
  exact ⟨h1, h2⟩
/-- Some maker, not too great, of memory that wasn't there in w0. -/
def AnyM (G : Mkr) (w0 w : World) (g : Nat) (i : Nat) : Prop := ∃ (O : Nat → Prop) (S : Mk), G w O g S ∧ S.Good ∧ S.n ≤ 1 + 59 * i ∧ S.m ≤ 59 * i ∧ (∀ k, O k → w0.heap.size ≤ k) ∧ Below w0.heap.size w0 w
theorem AnyM.below {G : Mkr} (hG : GadC G) {w0 w w' : World} {g i : Nat} (t : AnyM G w0 w g i) (hb : Below w.heap.size w w') : AnyM G w0 w' g i := by
  obtain ⟨O, S, h1, h2, h3, h4, h5, h6⟩ := t
  exact ⟨O, S, hG.below h1 hb, h2, h3, h4, h5, below_via hb h6 h6.size⟩
theorem AnyM.up {G : Mkr} {w0 w : World} {g i : Nat} (t : AnyM G w0 w g i) : AnyM G w0 w g (i + 1) := by
  obtain ⟨O, S, h1, h2, h3, h4, h5, h6⟩ := t
  exact ⟨O, S, h1, h2, by omega, by omega, h5, h6⟩
set_option maxRecDepth 8000 in
set_option maxHeartbeats 32000000 in
theorem gstays_of {G : Mkr} (hG : GadC G) (hC : CheckC 27) (ad : Option Addr) (n c : Nat) (D : Nat → Dd) (hn : n ≤ 9223372036854775807) (w : World) (hD : DdsAt w.heap.size w ad n D)
   (cu : ∀ w, Calls Try.prog 9 #[] w fun e w' => e = .returned (.bool true) ∧ Below w.heap.size w w') :
    Calls Try.prog 8 #[.slice ad n c] w fun e w' => e = .returned (.bool true) ∧ Below w.heap.size w w' := by
  have hG' : Hid (GadC G) := hG
  have hC' : Hid (CheckC 27) := hC
  have hD' : Hid (DdsAt w.heap.size w ad n D) := hD
  have cN := hG.new
  clear hG hD hC
  go_enter Try.func8, Try.ntmps8
  go_upto_region 5 with (first | (go_at_call 9; (with_reducible refine (cu _).mono ?_); rintro e wu ⟨rfl, bu⟩) | (go_at_call 10; (with_reducible refine (cN _).mono ?_); rintro e w1 ⟨g, O, rfl, g0, o0, b1⟩))
  have zu := bu.size
  have hT0 : Hid (AnyM G w w1 g 0) := ⟨O, Mk.new, g0, Mk.good_new, (by decide), (by decide), fun k hk => by have := o0 k hk; omega, below_via b1 bu zu⟩
  clear cN cu g0 o0 b1 bu zu
  go_wp2
  go_loopw [5] (fun si wr => ∃ i : Nat, i ≤ n ∧ i ≤ 12 ∧ si = .int .i64 i ∧ Hid (AnyM G w wr g i)) (fun si _ => n - (intOf si).toNat)
  case atStart => exact ⟨0, by omega, by omega, rfl, hT0⟩
  case round =>
    clear hT0
    obtain ⟨i, hi, hi12, rfl, hT⟩ := hrel
    by_cases hlt : i < n
    · have hlt' : (i : Int) < (n : Int) := by omega
      by_cases hl12 : i < 12
      · have hl12' : (i : Int) < 12 := by omega
        rcases hD'.out with hz | ⟨b, off, rfl, dd⟩
        · omega
        have ddi : Hid ((D i).At w.heap.size w) := dd.at_ i hlt
        have dd' : Hid (DdsIn w.heap.size w b off n D) := dd
        obtain ⟨O, S, gO, hS, hSn, hSm, oO, hBw0⟩ := hT.out
        have hBw : Hid (Below w.heap.size w wr) := hBw0
        have ⟨d0, d1, d2, d3, d4, d5, d6⟩ := dd.parts hBw0 hlt
        have cs := msmallW (D i)
        unfold Dd.val Lst.val at cs
        have blt := dd.lt
        clear dd hBw0
        cases hsm : (D i).small with
        | false =>
          rw [hsm] at cs
          have hT2 : Hid (∀ w1, Below wr.heap.size wr w1 → AnyM G w w1 g (i + 1)) := fun w1 hb => (hT.out.below hG'.out hb).up
          go_wp2_with (go_at_call 11; (with_reducible refine (cs _).mono ?_); rintro e w1 ⟨rfl, b1⟩)
          have hT3 : Hid (AnyM G w w1 g (i + 1)) := hT2.out w1 b1
          clear d0 d1 d2 d3 d4 d5 d6 hT2 b1
          go_roundw
          case rel => exact ⟨i + 1, by omega, by omega, by go_num, hT3⟩
          case measure => (simp [intOf]; omega)
        | true =>
          rw [hsm] at cs
          have hS' : Hid S.Good := hS
          have gO' : Hid (G wr O g S) := gO
          have hoO : Hid (∀ k, O k → w.heap.size ≤ k) := oO
          have hsl := small_le hsm
          clear gO oO hT hS
          go_upto_region 10 with (go_at_call 11; (with_reducible refine (cs _).mono ?_); rintro e w1 ⟨rfl, b1⟩)
          have hB1 : Hid (Below w.heap.size w w1) := below_via b1 hBw.out hBw.out.size
          have b1' : Hid (Below wr.heap.size wr w1) := b1
          have zr := b1.size
          clear d0 d1 d2 d3 d4 d5 d6 cs b1
          have ⟨d0, d1, d2, d3, d4, d5, d6⟩ := dd'.out.parts hB1.out hlt
          go_upto_region 11 with (fail)
          have hbx : Hid (DdB (w1.alloc (.cells #[.int .i64 (D i).what, .int .i64 (D i).a, .int .i64 (D i).b, .int .i64 (D i).n, .int .u64 ((D i).k : Nat), .slice (D i).L.ad (D i).L.n (D i).L.c, .slice (D i).ad (D i).m (D i).c] 38)) w1.heap.size (D i)) := DdB.new w1 (D i) _
          have b2 : Hid (Below wr.heap.size wr (w1.alloc (.cells #[.int .i64 (D i).what, .int .i64 (D i).a, .int .i64 (D i).b, .int .i64 (D i).n, .int .u64 ((D i).k : Nat), .slice (D i).L.ad (D i).L.n (D i).L.c, .slice (D i).ad (D i).m (D i).c] 38))) := b1'.out.alloc zr _
          have hB2 : Hid (Below w.heap.size w (w1.alloc (.cells #[.int .i64 (D i).what, .int .i64 (D i).a, .int .i64 (D i).b, .int .i64 (D i).n, .int .u64 ((D i).k : Nat), .slice (D i).L.ad (D i).L.n (D i).L.c, .slice (D i).ad (D i).m (D i).c] 38))) := hB1.out.alloc hB1.out.size _
          have z2 : w1.heap.size < (w1.alloc (.cells #[.int .i64 (D i).what, .int .i64 (D i).a, .int .i64 (D i).b, .int .i64 (D i).n, .int .u64 ((D i).k : Nat), .slice (D i).L.ad (D i).L.n (D i).L.c, .slice (D i).ad (D i).m (D i).c] 38)).heap.size := hbx.out.lt
          generalize (w1.alloc (.cells #[.int .i64 (D i).what, .int .i64 (D i).a, .int .i64 (D i).b, .int .i64 (D i).n, .int .u64 ((D i).k : Nat), .slice (D i).L.ad (D i).L.n (D i).L.c, .slice (D i).ad (D i).m (D i).c] 38)) = W2 at *
          have hwb : w.heap.size ≤ w1.heap.size := hB1.out.size
          generalize w1.heap.size = bd at *
          clear d0 d1 d2 d3 d4 d5 d6 hB1 b1'
          have gO2 : Hid (G W2 O g S) := hG'.out.below gO'.out b2.out
          have nO : Hid (¬ O bd) := fun hh => by have := hG'.out.lt gO'.out bd hh; omega
          clear gO' b2
          -- the list's copy
          have ⟨d0, d1, d2, d3, d4, d5, d6⟩ := dd'.out.parts hB2.out hlt
          have bW2 : b < W2.heap.size := by have := hB2.out.size; omega
          have e5 := hbx.out.c5
          have fr5 := hbx.out.fr 5
          go_upto_region 12 with (at_builtin; refine wpList_copyT rfl _ _ rfl W2.heap.size W2.heap.size rfl (World.ownsRow_made W2 #[] 0 (Nat.le_refl _) (by decide) rfl) (by simp) w.heap.size (D i).L.ad (D i).L.n (D i).L.c (D i).L.V (D i).L.K rfl (TrmsAt.below ddi.out.l (hB2.out.alloc hB2.out.size _)) (by have := hsl.1; omega) ?_; intro gl lc W3 hown3 hC3; have b3 : Below W2.heap.size W2 W3 := below_via hC3 ((Below.refl _ _).alloc (Nat.le_refl _) _) (Nat.le_refl _); have e5' : W3.cell? ⟨bd, 5, none⟩ = some (.slice (D i).L.ad (D i).L.n (D i).L.c) := ((bcell b3).1 bd 5 z2).trans e5; have fr5' : W3.frozen? ⟨bd, 5, none⟩ = false := ((bcell b3).2 bd 5 z2).trans fr5)
          have hbx3 : DdB W3 bd (D i) := hbx.out.below b3 z2 (Nat.le_refl _)
          have hglt := hown3.lt gl rfl
          have z3 := b3.size
          have kb := KeepO.setBox W3 bd 5 (.slice (some ⟨gl, 0, none⟩) (D i).L.n lc)
          have hbx4 : Hid (DdB (W3.setCell ⟨bd, 5, none⟩ (.slice (some ⟨gl, 0, none⟩) (D i).L.n lc)) bd ((D i).ownL gl lc)) := hbx3.setL gl lc
          have gO4 : Hid (G (W3.setCell ⟨bd, 5, none⟩ (.slice (some ⟨gl, 0, none⟩) (D i).L.n lc)) O g S) := hG'.out.keep (hG'.out.below gO2.out b3) kb fun k hk e => nO.out (e ▸ hk)
          have hB3 : Below w.heap.size w W3 := below_via b3 hB2.out hB2.out.size
          have hB4 : Hid (Below w.heap.size w (W3.setCell ⟨bd, 5, none⟩ (.slice (some ⟨gl, 0, none⟩) (D i).L.n lc))) := hB3.trans (kb.below (fun k hk e => by omega) hB3.size)
          have hown4 : Hid (OwnT (W3.setCell ⟨bd, 5, none⟩ (.slice (some ⟨gl, 0, none⟩) (D i).L.n lc)) W2.heap.size (.slice (some ⟨gl, 0, none⟩) (D i).L.n lc) (D i).L.n (D i).L.V (D i).L.K) := own_keep hown3 kb (fun k hk e => by cases hk; exact absurd (show gl = bd from e) (by omega))
          have z4 : (W3.setCell ⟨bd, 5, none⟩ (.slice (some ⟨gl, 0, none⟩) (D i).L.n lc)).heap.size = W3.heap.size := by simp
          have nOl : Hid (¬ O gl) := fun hh => by have := hG'.out.lt gO2.out gl hh; omega
          have zbd : bd < W3.heap.size := by omega
          have zgl : gl < W3.heap.size := by omega
          have hgb : gl ≠ bd := by omega
          have hgb2 : bd < gl := by omega
          have bW4 : b < W3.heap.size := by have := hB3.size; omega
          generalize W3.setCell ⟨bd, 5, none⟩ (.slice (some ⟨gl, 0, none⟩) (D i).L.n lc) = W4 at *
          rw [← z4] at zbd zgl bW4
          clear d0 d1 d2 d3 d4 d5 d6 e5 fr5 e5' fr5' hbx hbx3 hown3 hC3 b3 kb gO2 hB2 hB3 hglt bW2 z2 z3 z4
          -- the integers' copy
          have ⟨d0, d1, d2, d3, d4, d5, d6⟩ := dd'.out.parts hB4.out hlt
          have e6 : W4.cell? ⟨bd, 6, none⟩ = some (.slice (D i).ad (D i).m (D i).c) := hbx4.out.c6
          have fr6 := hbx4.out.fr 6
          go_upto_region 13 with (at_builtin; refine wpList_copyI rfl _ _ rfl W4.heap.size W4.heap.size rfl (World.ownsRow_made W4 #[] 0 (Nat.le_refl _) (by decide) rfl) (by simp) w.heap.size (D i).ad (D i).m (D i).c (D i).V rfl (ddi.out.low (hB4.out.alloc hB4.out.size _)).v (by have := hsl.2; omega) ?_; intro gv vc W5 hown5 hC5; have b5 : Below W4.heap.size W4 W5 := below_via hC5 ((Below.refl _ _).alloc (Nat.le_refl _) _) (Nat.le_refl _); have e6' : W5.cell? ⟨bd, 6, none⟩ = some (.slice (D i).ad (D i).m (D i).c) := ((bcell b5).1 bd 6 zbd).trans e6; have fr6' : W5.frozen? ⟨bd, 6, none⟩ = false := ((bcell b5).2 bd 6 zbd).trans fr6)
          have hbx5 : DdB W5 bd ((D i).ownL gl lc) := hbx4.out.below b5 zbd (Nat.le_refl _)
          have hvlt := World.ownsRow.lt hown5 gv rfl
          have z5 := b5.size
          have kb := KeepO.setBox W5 bd 6 (.slice (some ⟨gv, 0, none⟩) (D i).m vc)
          have hbx6 : Hid (DdB (W5.setCell ⟨bd, 6, none⟩ (.slice (some ⟨gv, 0, none⟩) (D i).m vc)) bd ((D i).own gl lc gv vc)) := hbx5.setV gv vc
          have gO6 : Hid (G (W5.setCell ⟨bd, 6, none⟩ (.slice (some ⟨gv, 0, none⟩) (D i).m vc)) O g S) := hG'.out.keep (hG'.out.below gO4.out b5) kb fun k hk e => nO.out (e ▸ hk)
          have hB5 : Below w.heap.size w W5 := below_via b5 hB4.out hB4.out.size
          have hB6 : Hid (Below w.heap.size w (W5.setCell ⟨bd, 6, none⟩ (.slice (some ⟨gv, 0, none⟩) (D i).m vc))) := hB5.trans (kb.below (fun k hk e => by omega) hB5.size)
          have hown6 : Hid (OwnT (W5.setCell ⟨bd, 6, none⟩ (.slice (some ⟨gv, 0, none⟩) (D i).m vc)) W2.heap.size (.slice (some ⟨gl, 0, none⟩) (D i).L.n lc) (D i).L.n (D i).L.V (D i).L.K) := own_keep (hown4.out.on b5) kb (fun k hk e => by cases hk; exact absurd (show gl = bd from e) (by omega))
          have hint6 : Hid ((W5.setCell ⟨bd, 6, none⟩ (.slice (some ⟨gv, 0, none⟩) (D i).m vc)).ownsRow W4.heap.size 3 1 (.slice (some ⟨gv, 0, none⟩) (D i).m vc) (D i).m (ials (D i).V (D i).m)) := own_keep hown5 kb (fun k hk e => by cases hk; exact absurd (show gv = bd from e) (by omega))
          have z6 : (W5.setCell ⟨bd, 6, none⟩ (.slice (some ⟨gv, 0, none⟩) (D i).m vc)).heap.size = W5.heap.size := by simp
          have nOv : Hid (¬ O gv) := fun hh => by have := hG'.out.lt gO4.out gv hh; omega
          have hgv : gv ≠ bd ∧ gv ≠ gl ∧ bd < gv := by omega
          obtain ⟨hvb, hvl, hvb2⟩ := hgv
          have zl6 : gl < W5.heap.size := by omega
          have zv6 : gv < W5.heap.size := by omega
          generalize W5.setCell ⟨bd, 6, none⟩ (.slice (some ⟨gv, 0, none⟩) (D i).m vc) = W6 at *
          rw [← z6] at zl6 zv6
          clear d0 d1 d2 d3 d4 d5 d6 e6 fr6 e6' fr6' hbx4 hbx5 hown4 hown5 hC5 b5 kb gO4 hB4 hB5 hvlt bW4 z5 z6
          have at6 : Hid (((D i).own gl lc gv vc).At W6.heap.size W6) := Dd.own_at (ddi.out.low hB6.out) hown6.out hint6.out
          have cc : Calls Try.prog 17 #[.pointer (some ⟨g, 0, none⟩), .agg #[.int .i64 (D i).what, .int .i64 (D i).a, .int .i64 (D i).b, .int .i64 (D i).n, .int .u64 ((D i).k : Nat), .slice (some ⟨gl, 0, none⟩) (D i).L.n lc, .slice (some ⟨gv, 0, none⟩) (D i).m vc]] W6 fun e w' => e = .returned (.tuple #[]) ∧ GAfter G O W6 w' g (S.deed ((D i).own gl lc gv vc)) :=
            mcallW hG'.out O g S ⟨hS'.out, by omega, by omega⟩ ((D i).own gl lc gv vc) hsl W6 gO6.out at6.out (fun y hy _ => by cases hy; exact nOv.out)
          have ⟨e0, e1, e2, e3, e4, e5, e6⟩ := hbx6.out.cellsO
          go_upto_region 14 with (go_at_call 17; (with_reducible refine cc.mono ?_); rintro e w7 ⟨rfl, O7, g7, o7, k7⟩)
          have few := Mk.deed_few S ((D i).own gl lc gv vc) hsl.2
          have hS7 : Hid ((S.deed ((D i).own gl lc gv vc)).Good) := hS'.out.deed _
          have g7' : Hid (G w7 O7 g (S.deed ((D i).own gl lc gv vc))) := g7
          have hbx7 : Hid (DdB w7 bd ((D i).own gl lc gv vc)) := hbx6.out.keepO k7 nO.out
          have hB7 : Hid (Below w.heap.size w w7) := k7.to_below hB6.out hoO.out
          have hown7 : Hid (OwnT w7 W2.heap.size (.slice (some ⟨gl, 0, none⟩) (D i).L.n lc) (D i).L.n (D i).L.V (D i).L.K) := own_keep hown6.out k7 (fun k hk e => by cases hk; exact nOl.out e)
          have hint7 : Hid (w7.ownsRow W4.heap.size 3 1 (.slice (some ⟨gv, 0, none⟩) (D i).m vc) (D i).m (ials (D i).V (D i).m)) := own_keep hint6.out k7 (fun k hk e => by cases hk; exact nOv.out e)
          have hoO7 : Hid (∀ k, O7 k → w.heap.size ≤ k) := fun k hk => by
            rcases o7 k hk with h1 | h1
            · exact hoO.out k h1
            · have := hB6.out.size; omega
          have nO7l : Hid (¬ O7 gl) := fun hh => by
            rcases o7 gl hh with h1 | h1
            · exact nOl.out h1
            · omega
          have nO7v : Hid (¬ O7 gv) := fun hh => by
            rcases o7 gv hh with h1 | h1
            · exact nOv.out h1
            · omega
          have hT7 : Hid (∀ w', KeepO (fun q => q = gl ∨ q = gv) w7 w' → AnyM G w w' g (i + 1)) := fun w' hk =>
            ⟨O7, _, hG'.out.keep g7'.out hk (fun k ho e => by rcases e with e | e; (exact nO7l.out (e ▸ ho)); (exact nO7v.out (e ▸ ho))), hS7.out, by omega, by omega, hoO7.out, hB7.out.trans (hk.below (fun k hk e => by rcases (show k = gl ∨ k = gv from e) with h | h <;> omega) hB7.out.size)⟩
          have hL0 : Hid (∀ j, j < (D i).L.n → w7.cell? ⟨gl, j * 2, none⟩ = some (.int .i64 ((D i).L.V j)) ∧ w7.cell? ⟨gl, j * 2 + 1, none⟩ = some (.int .u64 ((D i).L.K j : Nat))) := fun j hj => trm_at hown7.out hj
          have hLf : Hid (∀ o, w7.frozen? ⟨gl, o, none⟩ = false) := fun o => World.ownsRow.frozenAt hown7.out o
          have hV0 : Hid (∀ j, j < (D i).m → w7.cell? ⟨gv, j, none⟩ = some (.int .i64 ((D i).V j))) := fun j hj => ints_at hint7.out hj
          have hVf : Hid (∀ o, w7.frozen? ⟨gv, o, none⟩ = false) := fun o => World.ownsRow.frozenAt hint7.out o
          have hLz := (hown7.out.lt gl rfl).2
          have hVz := (World.ownsRow.lt hint7.out gv rfl).2
          have hbz := hbx7.out.lt
          have e5 := hbx7.out.cellsO.2.2.2.2.2.1
          have hsl1 := hsl.1
          have hsl2 := hsl.2
          clear e0 e1 e2 e3 e4 e6 cc g7 o7 k7 hbx6 gO6 hB6 hown6 hint6 at6 hown7 hint7 hoO7 nO7l nO7v g7' hS7 nO nOl nOv hoO few hSn hSm hS' zl6 zv6 hsl
          go_wp2
          go_loopw [8] (fun si wr => ∃ k : Nat, k ≤ (D i).L.n ∧ si = .int .i64 k ∧ Hid (Scr (fun q => q = gl) w7 wr) ∧ Hid (∀ j, k ≤ j → j < (D i).L.n → wr.cell? ⟨gl, j * 2, none⟩ = some (.int .i64 ((D i).L.V j)) ∧ wr.cell? ⟨gl, j * 2 + 1, none⟩ = some (.int .u64 ((D i).L.K j : Nat)))) (fun si _ => (D i).L.n - (intOf si).toNat)
          case atStart => exact ⟨0, by omega, rfl, Scr.refl _ _, fun j _ hj => hL0.out j hj⟩
          case round =>
            clear hL0
            obtain ⟨k, hk, rfl, hC, hcl⟩ := hrel
            have hbr : DdB wr bd ((D i).own gl lc gv vc) := hbx7.out.keepO hC.out.k (fun e => hgb e.symm)
            have hBr : Hid (Below w.heap.size w wr) := hB7.out.trans (hC.out.k.below (fun k hk e => by have h : k = gl := e; omega) hB7.out.size)
            have e5 := hbr.cellsO.2.2.2.2.2.1
            have e6 := hbr.cellsO.2.2.2.2.2.2
            by_cases hlk : k < (D i).L.n
            · have hlk' : (k : Int) < ((D i).L.n : Int) := by omega
              have ⟨d0, d1, d2, d3, d4, d5, d6⟩ := dd'.out.parts hBr.out hlt
              rcases ddi.out.l with hz | ⟨bL, oL, hbL, lL, tL⟩
              · omega
              have p0 := (tL.below hBr.out lL).c0 k hlk
              have p1 := (tL.below hBr.out lL).c1 k hlk
              obtain ⟨q0, q1⟩ := hcl.out k (Nat.le_refl _) hlk
              have he : ∀ w : World, (Op.equalIn 10000 61 (.agg #[.int .i64 ((D i).L.V k), .int .u64 ((D i).L.K k : Nat)]) (.agg #[.int .i64 ((D i).L.V k), .int .u64 ((D i).L.K k : Nat)])).run Try.prog w = .ok true w := fun w => by rw [equal_Trm]; simp
              rw [hbL] at d5
              have fz0 : wr.frozen? ⟨gl, k * 2, none⟩ = false := (hC.out.f _ hLz).trans (hLf.out _)
              have fz1 : wr.frozen? ⟨gl, k * 2 + 1, none⟩ = false := (hC.out.f _ hLz).trans (hLf.out _)
              obtain ⟨Vk, hVk⟩ : ∃ Vk, Hid ((D i).L.V k = Vk) := ⟨_, rfl⟩
              obtain ⟨Kk, hKk⟩ : ∃ Kk, Hid ((D i).L.K k = Kk) := ⟨_, rfl⟩
              rw [hVk.out, hKk.out] at he
              rw [hVk.out] at p0 q0
              rw [hKk.out] at p1 q1
              clear hbL tL d0 d1 d2 d3 d4 d6 e6 hbr
              go_upto_region 17 with (fail)
              go_region_held3 (fun w' : World => w'.cell? ⟨bd, 5, none⟩ = some (.slice (some ⟨gl, 0, none⟩) (D i).L.n lc) ∧ (w'.cell? ⟨gl, k * 2, none⟩ = some (.int .i64 Vk) ∧ w'.cell? ⟨gl, k * 2 + 1, none⟩ = some (.int .u64 (Kk : Nat))) ∧ w'.cell? ⟨b, off + i * 7 + 5, none⟩ = some (.slice (some ⟨bL, oL, none⟩) (D i).L.n (D i).L.c) ∧ (w'.cell? ⟨bL, oL + k * 2, none⟩ = some (.int .i64 Vk) ∧ w'.cell? ⟨bL, oL + k * 2 + 1, none⟩ = some (.int .u64 (Kk : Nat)))) (go_keep) (fail)
              go_upto_region 19 with (fail)
              have hC2 : Hid (Scr (fun q => q = gl) w7 ((wr.setCell ⟨gl, k * 2, none⟩ (.int .i64 0)).setCell ⟨gl, k * 2 + 1, none⟩ (.int .u64 0)).drew) := ((hC.out.set gl _ _ rfl).set gl _ _ rfl).drew
              have hcl2 : Hid (∀ j, k + 1 ≤ j → j < (D i).L.n → ((wr.setCell ⟨gl, k * 2, none⟩ (.int .i64 0)).setCell ⟨gl, k * 2 + 1, none⟩ (.int .u64 0)).drew.cell? ⟨gl, j * 2, none⟩ = some (.int .i64 ((D i).L.V j)) ∧ ((wr.setCell ⟨gl, k * 2, none⟩ (.int .i64 0)).setCell ⟨gl, k * 2 + 1, none⟩ (.int .u64 0)).drew.cell? ⟨gl, j * 2 + 1, none⟩ = some (.int .u64 ((D i).L.K j : Nat))) := fun j h1 h2 => by
                obtain ⟨r0, r1⟩ := hcl.out j (by omega) h2
                constructor
                · show ((wr.setCell _ _).setCell _ _).cell? _ = _
                  rw [World.cell?_setCell_other _ _ _ _ (by intro e; simp only [Addr.mk.injEq] at e; omega), World.cell?_setCell_other _ _ _ _ (by intro e; simp only [Addr.mk.injEq] at e; omega)]
                  exact r0
                · show ((wr.setCell _ _).setCell _ _).cell? _ = _
                  rw [World.cell?_setCell_other _ _ _ _ (by intro e; simp only [Addr.mk.injEq] at e; omega), World.cell?_setCell_other _ _ _ _ (by intro e; simp only [Addr.mk.injEq] at e; omega)]
                  exact r1
              go_upto_region 16 with (fail)
              clear q0 q1 p0 p1 d5 he fz0 fz1 hC hcl e5
              go_wp2
              go_roundw
              case rel => exact ⟨k + 1, by omega, by go_num, hC2, hcl2⟩
              case measure => (simp [intOf]; omega)
            · have hlk' : ¬ (k : Int) < ((D i).L.n : Int) := by omega
              have hK8 : Hid (KeepO (fun q => q = gl) w7 wr) := hC.out.k
              have hV8 : Hid (∀ j, j < (D i).m → wr.cell? ⟨gv, j, none⟩ = some (.int .i64 ((D i).V j))) := fun j hj => hC.out.k.cell (hV0.out j hj) (fun e => hvl e)
              have hVf8 : Hid (∀ o, wr.frozen? ⟨gv, o, none⟩ = false) := fun o => (hC.out.f ⟨gv, o, none⟩ hVz).trans (hVf.out o)
              have hbx8 : Hid (DdB wr bd ((D i).own gl lc gv vc)) := hbr
              have hB8 : Hid (Below w.heap.size w wr) := hBr.out
              have hV8z : gv < wr.heap.size := Nat.lt_of_lt_of_le hVz hC.out.k.size
              clear hC hcl hbr hBr hV0 hVf hLf hk hbx7
              go_wp2
              generalize hWe : wr = w8 at *
              clear hWe
              go_loopw [9] (fun si wr => ∃ k : Nat, k ≤ (D i).m ∧ si = .int .i64 k ∧ Hid (Scr (fun q => q = gv) w8 wr) ∧ Hid (∀ j, k ≤ j → j < (D i).m → wr.cell? ⟨gv, j, none⟩ = some (.int .i64 ((D i).V j)))) (fun si _ => (D i).m - (intOf si).toNat)
              case atStart => exact ⟨0, by omega, rfl, Scr.refl _ _, fun j _ hj => hV8.out j hj⟩
              case round =>
                clear hV8
                obtain ⟨k, hk, rfl, hC, hcl⟩ := hrel
                have hbr : DdB wr bd ((D i).own gl lc gv vc) := hbx8.out.keepO hC.out.k (fun e => hvb e.symm)
                have hBr : Hid (Below w.heap.size w wr) := hB8.out.trans (hC.out.k.below (fun k hk e => by have h : k = gv := e; omega) hB8.out.size)
                have e6 := hbr.cellsO.2.2.2.2.2.2
                by_cases hlk : k < (D i).m
                · have hlk' : (k : Int) < ((D i).m : Int) := by omega
                  have ⟨d0, d1, d2, d3, d4, d5, d6⟩ := dd'.out.parts hBr.out hlt
                  rcases ddi.out.v with hz | ⟨bV, oV, hbV, lV, tV⟩
                  · omega
                  have p0 : wr.cell? ⟨bV, oV + k, none⟩ = some (.int .i64 ((D i).V k)) := by rw [(bcell hBr.out).1 bV _ lV]; exact tV.at_ k hlk
                  have q0 := hcl.out k (Nat.le_refl _) hlk
                  rw [hbV] at d6
                  have fz0 : wr.frozen? ⟨gv, k, none⟩ = false := (hC.out.f ⟨gv, k, none⟩ hV8z).trans (hVf8.out _)
                  obtain ⟨Vk, hVk⟩ : ∃ Vk, Hid ((D i).V k = Vk) := ⟨_, rfl⟩
                  rw [hVk.out] at p0 q0
                  clear hbV tV d0 d1 d2 d3 d4 d5 hbr
                  go_upto_region 23 with (fail)
                  go_region_held3 (fun w' : World => w'.cell? ⟨bd, 6, none⟩ = some (.slice (some ⟨gv, 0, none⟩) (D i).m vc) ∧ w'.cell? ⟨gv, k, none⟩ = some (.int .i64 Vk) ∧ w'.cell? ⟨b, off + i * 7 + 6, none⟩ = some (.slice (some ⟨bV, oV, none⟩) (D i).m (D i).c) ∧ w'.cell? ⟨bV, oV + k, none⟩ = some (.int .i64 Vk)) (go_keep) (fail)
                  have hC2 : Hid (Scr (fun q => q = gv) w8 (wr.setCell ⟨gv, k, none⟩ (.int .i64 (-1))).drew) := (hC.out.set gv _ _ rfl).drew
                  have hcl2 : Hid (∀ j, k + 1 ≤ j → j < (D i).m → (wr.setCell ⟨gv, k, none⟩ (.int .i64 (-1))).drew.cell? ⟨gv, j, none⟩ = some (.int .i64 ((D i).V j))) := fun j h1 h2 => by
                    show (wr.setCell _ _).cell? _ = _
                    rw [World.cell?_setCell_other _ _ _ _ (by intro e; simp only [Addr.mk.injEq] at e; omega)]
                    exact hcl.out j (by omega) h2
                  go_upto_region 22 with (fail)
                  clear q0 p0 d6 fz0 hC hcl e6
                  go_wp2
                  go_roundw
                  case rel => exact ⟨k + 1, by omega, by go_num, hC2, hcl2⟩
                  case measure => (simp [intOf]; omega)
                · have hlk' : ¬ (k : Int) < ((D i).m : Int) := by omega
                  have hT9 : Hid (AnyM G w wr g (i + 1)) := hT7.out wr ((hK8.out.mono (P := fun q => q = gl ∨ q = gv) (fun q _ h => Or.inl h)).trans (hC.out.k.mono (P := fun q => q = gl ∨ q = gv) (fun q _ h => Or.inr h)) (fun _ _ h => h))
                  clear hC hcl hbr hBr hK8
                  go_wp2
                  go_roundw
                  case rel => exact ⟨i + 1, by omega, by omega, by go_num, hT9⟩
                  case measure => (simp [intOf]; omega)
      · have hl12' : ¬ (i : Int) < 12 := by omega
        obtain ⟨O, S, gO, hS, hSn, hSm, oO, hB0⟩ := hT.out
        have fD : S.fit := ⟨hS, by omega, by omega⟩
        have hB' : Hid (Below w.heap.size w wr) := hB0
        have oO' : Hid (∀ k, O k → w.heap.size ≤ k) := oO
        have fD' : Hid S.fit := fD
        have cD := hG'.out.done wr O g S gO fD
        unfold rankV at cD
        obtain ⟨sn, hsn⟩ : ∃ sn, Hid (S.n = sn) := ⟨_, rfl⟩
        obtain ⟨sp, hsp⟩ : ∃ sp, Hid (S.pub = sp) := ⟨_, rfl⟩
        obtain ⟨sm, hsm⟩ : ∃ sm, Hid (S.m = sm) := ⟨_, rfl⟩
        rw [hsn.out, hsp.out, hsm.out] at cD
        have hn3 : sn ≤ 3000 := by rw [← hsn.out]; exact fD.2.1
        have hm3 : sm ≤ 3000 := by rw [← hsm.out]; exact fD.2.2
        have hn1 : 1 ≤ sn := by rw [← hsn.out]; exact hS.n1
        have hp3 : sp ≤ 3000 := by have h1 := hS.pubs; rw [hsn.out, hsp.out] at h1; omega
        have hv1 : Hid (S.v 0 = 1) := hS.v0
        clear hT gO hS hSn hSm oO hB0 fD
        go_upto_region 27 with (go_at_call 15; (with_reducible refine cD.mono ?_); rintro e w5 ⟨Q, a5, c5, R5, x5, d5, rfl, g5, o5, k5, ns, sy, hd5, wd, hx5, nx5, fx5, ax5, lx5⟩)
        have hB5 : Hid (Below w.heap.size w w5) := k5.to_below hB'.out oO'.out
        have oQ : Hid (∀ k, Q k → w.heap.size ≤ k) := fun k hk => by
          rcases o5 k hk with h1 | h1
          · exact oO'.out k h1
          · have := hB'.out.size; omega
        have hx5w : w.heap.size ≤ x5 := by have := hB'.out.size; omega
        have b6 : Below w5.heap.size w5 (w5.alloc (.cells #[.int .i64 (sn : Nat), .int .i64 (sp : Nat), .slice a5 sm c5] 29)) := (Below.refl _ _).alloc (Nat.le_refl _) _
        have g6 : Hid (G (w5.alloc (.cells #[.int .i64 (sn : Nat), .int .i64 (sp : Nat), .slice a5 sm c5] 29)) Q g S) := hG'.out.below g5 b6
        have hB6 : Hid (Below w.heap.size w (w5.alloc (.cells #[.int .i64 (sn : Nat), .int .i64 (sp : Nat), .slice a5 sm c5] 29))) := below_via b6 hB5.out hB5.out.size
        have t6 : Hid (Three (w5.alloc (.cells #[.int .i64 (sn : Nat), .int .i64 (sp : Nat), .slice a5 sm c5] 29)) w5.heap.size (.int .i64 (sn : Nat)) (.int .i64 (sp : Nat)) (.slice a5 sm c5)) := by show Three _ _ _ _ _; (repeat' (first | (with_reducible first | assumption | exact Three.own (by with_reducible assumption) | refine Three.set ?_ _ _ _ | refine Own3.set ?_ _ _ _ | refine Three.drew ?_ | refine Three.drewN ?_ _ | refine Own3.drew ?_ | refine Own3.drewN ?_ _ | (refine Three.new ?_; simp only [szs]; done) | (refine Own3.new ?_; simp only [szs]; done) | refine Three.alloc ?_ _ | refine Own3.alloc ?_ _ | refine Three.far ?_ ?_ _ _ | refine Own3.far ?_ ?_ _ _ | refine Three.via (by with_reducible assumption) ?_ ?_ | refine Own3.via (by with_reducible assumption) ?_ ?_) | omega | (simp only [szs]; omega)))
        have r6 : Hid (RowsAt (w5.alloc (.cells #[.int .i64 (sn : Nat), .int .i64 (sp : Nat), .slice a5 sm c5] 29)).heap.size (w5.alloc (.cells #[.int .i64 (sn : Nat), .int .i64 (sp : Nat), .slice a5 sm c5] 29)) a5 sm R5) := ns.rows.to b6 (Nat.le_refl _)
        have v6 : Hid ((w5.alloc (.cells #[.int .i64 (sn : Nat), .int .i64 (sp : Nat), .slice a5 sm c5] 29)).cell? ⟨x5, 0, none⟩ = some (.int .u64 (S.v 0 : Nat)) ∧ (w5.alloc (.cells #[.int .i64 (sn : Nat), .int .i64 (sp : Nat), .slice a5 sm c5] 29)).frozen? ⟨x5, 0, none⟩ = false ∧ x5 < (w5.alloc (.cells #[.int .i64 (sn : Nat), .int .i64 (sp : Nat), .slice a5 sm c5] 29)).heap.size) := by
          have h1 := (wd.below b6 wd.lt).at_ 0 (by omega)
          exact ⟨h1, ((bcell b6).2 x5 0 wd.lt).trans (fx5 0), (wd.below b6 wd.lt).lt⟩
        obtain ⟨T, hTd⟩ : ∃ T : Nat → Prop, Hid (T = fun q => ∃ i, i < sm ∧ 0 < (R5 i 0).n ∧ ∃ y, (R5 i 0).ad = some y ∧ y.block = q) := ⟨_, rfl⟩
        have rin : ∀ i, i < sm → 0 < (R5 i 0).n → ∀ y, (R5 i 0).ad = some y → y.block < w5.heap.size := fun i hi h0 y hy => by
          rcases ns.rows with hz | ⟨ra, ro, e, t⟩
          · omega
          · rcases t.at_ i hi 0 (by decide) with hz | ⟨gb, go_, e2, l2, t2⟩
            · omega
            · rw [hy] at e2; cases e2; exact t2.lt
        have nTb : Hid (¬ T w5.heap.size) := fun h => by
          rw [hTd.out] at h
          obtain ⟨i, h1, h2, y, h3, h4⟩ := h
          have := rin i h1 h2 y h3; omega
        have nTr : Hid (∀ y, a5 = some y → ¬ T y.block) := fun y hy h => by
          rw [hTd.out] at h
          obtain ⟨i, h1, h2, z, h3, h4⟩ := h
          exact ns.apart i h1 0 (by decide) z y h3 h2 hy h4
        have nTx : Hid (¬ T x5) := fun h => by
          rw [hTd.out] at h
          obtain ⟨i, h1, h2, z, h3, h4⟩ := h
          exact lx5 i h1 0 (by decide) z h3 h2 h4
        have nTQ : Hid (∀ q, Q q → ¬ T q) := fun q hq h => by
          rw [hTd.out] at h
          obtain ⟨i, h1, h2, z, h3, h4⟩ := h
          exact (ns.lst i h1 0 (by decide) z h3 h2).2.1 (h4 ▸ hq)
        have nTw : Hid (∀ q, T q → w.heap.size ≤ q) := fun q h => by
          rw [hTd.out] at h
          obtain ⟨i, h1, h2, z, h3, h4⟩ := h
          have h5 := (ns.lst i h1 0 (by decide) z h3 h2).1
          have := hB'.out.size; omega
        have fT : Hid (∀ i, i < sm → ∀ y, (R5 i 0).ad = some y → 0 < (R5 i 0).n → ∀ o, (w5.alloc (.cells #[.int .i64 (sn : Nat), .int .i64 (sp : Nat), .slice a5 sm c5] 29)).frozen? ⟨y.block, o, none⟩ = false) := fun i hi y hy h0 o => ((bcell b6).2 y.block o (rin i hi h0 y hy)).trans ((ns.lst i hi 0 (by decide) y hy h0).2.2 o)
        have nQx : Hid (¬ Q x5) := nx5
        have ok5 : Hid (∀ i j, (R5 i j).Ok) := ns.ok
        clear cD g5 o5 k5 ns sy hd5 wd hx5 nx5 fx5 ax5 lx5 hB5 b6 rin hB' oO'
        generalize (w5.alloc (.cells #[.int .i64 (sn : Nat), .int .i64 (sp : Nat), .slice a5 sm c5] 29)) = W6 at *
        generalize w5.heap.size = bs at *
        go_wp2
        go_loopw [12] (fun si wr => ∃ i : Nat, i ≤ sm ∧ si = .int .i64 i ∧ Hid (Scr T W6 wr)) (fun si _ => sm - (intOf si).toNat)
        case atStart => exact ⟨0, by omega, rfl, Scr.refl _ _⟩
        case round =>
          obtain ⟨i, hi, rfl, hC⟩ := hrel
          have t7 := t6.out.keepO hC.out.k nTb.out
          have ⟨f1, f2, f3, f4, f5, f6, f7⟩ := t7
          by_cases hli : i < sm
          · have hli' : (i : Int) < (sm : Int) := by omega
            go_upto_region 30 with (fail)
            clear f1 f2 f3 f4 f5 f6 f7 t7
            go_wp2
            go_loopw [13] (fun sk wr => ∃ k : Nat, k ≤ (R5 i 0).n ∧ sk = .int .i64 k ∧ Hid (Scr T W6 wr)) (fun sk _ => (R5 i 0).n - (intOf sk).toNat)
            case atStart => exact ⟨0, by omega, rfl, hC⟩
            case round =>
              clear hC
              obtain ⟨k, hk, rfl, hC⟩ := hrel
              have t7 := t6.out.keepO hC.out.k nTb.out
              have ⟨f1, f2, f3, f4, f5, f6, f7⟩ := t7
              rcases r6.out with hz | ⟨ra, ro, rfl, tr⟩
              · omega
              have q0 : wr.cell? ⟨ra, ro + i * 3, none⟩ = some (.slice (R5 i 0).ad (R5 i 0).n (R5 i 0).c) := hC.out.k.cell (tr.cell i hli 0 (by decide)) (nTr.out _ rfl)
              have okn := ok5.out i 0
              by_cases hlk : k < (R5 i 0).n
              · have hlk' : (k : Int) < ((R5 i 0).n : Int) := by omega
                rcases tr.at_ i hli 0 (by decide) with hz | ⟨gb, go_, hgb, l2, t2⟩
                · omega
                obtain ⟨x0, p0⟩ := hC.out.c _ _ _ (t2.c0 k hlk)
                obtain ⟨x1, p1⟩ := hC.out.c _ _ _ (t2.c1 k hlk)
                have z0 := (hC.out.f ⟨gb, go_ + k * 2, none⟩ t2.lt).trans (fT.out i hli _ hgb (by omega) _)
                have z1 := (hC.out.f ⟨gb, go_ + k * 2 + 1, none⟩ t2.lt).trans (fT.out i hli _ hgb (by omega) _)
                have hTg : T gb := by rw [hTd.out]; exact ⟨i, hli, by omega, _, hgb, rfl⟩
                have hC2 : Hid (Scr T W6 ((wr.setCell ⟨gb, go_ + k * 2, none⟩ (.int .i64 (-1))).setCell ⟨gb, go_ + k * 2 + 1, none⟩ (.int .u64 0))) := (hC.out.set gb _ _ hTg).set gb _ _ hTg
                rw [hgb] at q0
                have hn64 : ((R5 i 0).n : Int) ≤ 9223372036854775807 := by have := okn.n1; have := okn.n2; omega
                generalize (R5 i 0).n = n0 at *
                generalize (R5 i 0).c = cc0 at *
                clear okn hgb t2 tr hTg
                go_upto_region 32 with (fail)
                clear hC q0 p0 p1 z0 z1 f1 f2 f3 f4 f5 f6 f7 t7
                go_wp2
                go_roundw
                case rel => exact ⟨k + 1, by omega, by go_num, hC2⟩
                case measure => (simp [intOf]; omega)
              · have hlk' : ¬ (k : Int) < ((R5 i 0).n : Int) := by omega
                clear tr okn
                go_wp2
                go_roundw
                case rel => exact ⟨i + 1, by omega, by go_num, hC⟩
                case measure => (simp [intOf]; omega)
          · have hli' : ¬ (i : Int) < (sm : Int) := by omega
            have hk6 := hC.out.k
            have v7 : wr.cell? ⟨x5, 0, none⟩ = some (.int .u64 (S.v 0 : Nat)) := hk6.cell v6.out.1 nTx.out
            have z7 : wr.frozen? ⟨x5, 0, none⟩ = false := (hC.out.f ⟨x5, 0, none⟩ v6.out.2.2).trans v6.out.2.1
            have hB7 : Below w.heap.size w wr := hB6.out.trans (hk6.below (fun q hq h => by have := nTw.out q h; omega) hB6.out.size)
            have g7 : G wr Q g S := hG'.out.keep g6.out hk6 nTQ.out
            have kb := KeepO.setBox wr x5 0 (.int .u64 5)
            have g11 : G (wr.setCell ⟨x5, 0, none⟩ (.int .u64 5)) Q g S := hG'.out.keep g7 kb fun q hq e => nQx.out (e ▸ hq)
            have hB11 : Hid (Below w.heap.size w (wr.setCell ⟨x5, 0, none⟩ (.int .u64 5))) := hB7.trans (kb.below (fun q hq e => by have h : q = x5 := e; omega) hB7.size)
            have cE := hG'.out.done (wr.setCell ⟨x5, 0, none⟩ (.int .u64 5)) Q g S g11 fD'.out
            unfold rankV at cE
            rw [hsn.out, hsp.out, hsm.out] at cE
            have hsn1 : (0 : Int) < (sn : Int) := by omega
            clear hC hk6 hB7 g7 kb g11 t6 r6 v6 nTb nTr nTx nTQ nTw fT nQx ok5 g6 hB6 hTd
            go_upto_region 35 with (fail)
            generalize (wr.setCell ⟨x5, 0, none⟩ (.int .u64 5)) = W11 at *
            clear v7 z7 f1 f2 f3 f4 f5 f6 f7 t7
            go_upto_region 36 with (go_at_call 15; (with_reducible refine cE.mono ?_); rintro e w12 ⟨Q12, a12, c12, R12, x12, d12, rfl, g12, o12, k12, ns, sy, hd12, wd, hx12, _, _, _, _⟩)
            have hB12 : Below w.heap.size w w12 := k12.to_below hB11.out oQ.out
            have b13 : Below w12.heap.size w12 (w12.alloc (.cells #[.int .i64 (sn : Nat), .int .i64 (sp : Nat), .slice a12 sm c12] 29)) := (Below.refl _ _).alloc (Nat.le_refl _) _
            have hB13 : Hid (Below w.heap.size w (w12.alloc (.cells #[.int .i64 (sn : Nat), .int .i64 (sp : Nat), .slice a12 sm c12] 29))) := below_via b13 hB12 hB12.size
            have t13 : Three (w12.alloc (.cells #[.int .i64 (sn : Nat), .int .i64 (sp : Nat), .slice a12 sm c12] 29)) w12.heap.size (.int .i64 (sn : Nat)) (.int .i64 (sp : Nat)) (.slice a12 sm c12) := by (repeat' (first | (with_reducible first | assumption | exact Three.own (by with_reducible assumption) | refine Three.set ?_ _ _ _ | refine Own3.set ?_ _ _ _ | refine Three.drew ?_ | refine Three.drewN ?_ _ | refine Own3.drew ?_ | refine Own3.drewN ?_ _ | (refine Three.new ?_; simp only [szs]; done) | (refine Own3.new ?_; simp only [szs]; done) | refine Three.alloc ?_ _ | refine Own3.alloc ?_ _ | refine Three.far ?_ ?_ _ _ | refine Own3.far ?_ ?_ _ _ | refine Three.via (by with_reducible assumption) ?_ ?_ | refine Own3.via (by with_reducible assumption) ?_ ?_) | omega | (simp only [szs]; omega)))
            have u0 := (wd.below b13 wd.lt).at_ 0 (by omega)
            rw [hv1.out, Nat.add_zero] at u0
            have hchk : Hid (checkB (sn : Nat) (sp : Nat) sm R12 = true) := by
              have h := sy.check fD'.out.1 (Nat.le_trans fD'.out.2.1 (by decide)) (Nat.le_trans fD'.out.2.2 (by decide))
              rw [hsn.out, hsp.out, hsm.out] at h
              exact h
            have cK := hC'.out (sn : Nat) (sp : Nat) a12 sm c12 R12 ns.ok (by omega) (by omega) (by omega) (by omega) (by omega) (w12.alloc (.cells #[.int .i64 (sn : Nat), .int .i64 (sp : Nat), .slice a12 sm c12] 29)) (ns.rows.to b13 (Nat.le_refl _))
            rw [if_pos hchk.out] at cK
            unfold rankV at cK
            generalize (w12.alloc (.cells #[.int .i64 (sn : Nat), .int .i64 (sp : Nat), .slice a12 sm c12] 29)) = W13 at *
            generalize w12.heap.size = bt at *
            have ⟨f1, f2, f3, f4, f5, f6, f7⟩ := t13
            have u0' : W13.cell? ⟨x12, 0, none⟩ = some (.int .u64 1) := u0
            clear cE g12 o12 k12 ns sy hd12 wd hx12 hB12 b13 t13 u0 hchk
            go_wp2_with (go_at_call 27; (with_reducible refine cK.mono ?_); rintro e w14 ⟨rfl, b14⟩; have hend : Hid (Below w.heap.size w w14) := below_via b14 hB13.out hB13.out.size; clear b14)
            (try go_ret)
            exact ⟨rfl, hend.out⟩
    · have hlt' : ¬ (i : Int) < (n : Int) := by omega
      obtain ⟨O, S, gO, hS, hSn, hSm, oO, hB0⟩ := hT.out
      have fD : S.fit := ⟨hS, by omega, by omega⟩
      have hB' : Hid (Below w.heap.size w wr) := hB0
      have oO' : Hid (∀ k, O k → w.heap.size ≤ k) := oO
      have fD' : Hid S.fit := fD
      have cD := hG'.out.done wr O g S gO fD
      unfold rankV at cD
      obtain ⟨sn, hsn⟩ : ∃ sn, Hid (S.n = sn) := ⟨_, rfl⟩
      obtain ⟨sp, hsp⟩ : ∃ sp, Hid (S.pub = sp) := ⟨_, rfl⟩
      obtain ⟨sm, hsm⟩ : ∃ sm, Hid (S.m = sm) := ⟨_, rfl⟩
      rw [hsn.out, hsp.out, hsm.out] at cD
      have hn3 : sn ≤ 3000 := by rw [← hsn.out]; exact fD.2.1
      have hm3 : sm ≤ 3000 := by rw [← hsm.out]; exact fD.2.2
      have hn1 : 1 ≤ sn := by rw [← hsn.out]; exact hS.n1
      have hp3 : sp ≤ 3000 := by have h1 := hS.pubs; rw [hsn.out, hsp.out] at h1; omega
      have hv1 : Hid (S.v 0 = 1) := hS.v0
      clear hT gO hS hSn hSm oO hB0 fD
      go_upto_region 27 with (go_at_call 15; (with_reducible refine cD.mono ?_); rintro e w5 ⟨Q, a5, c5, R5, x5, d5, rfl, g5, o5, k5, ns, sy, hd5, wd, hx5, nx5, fx5, ax5, lx5⟩)
      have hB5 : Hid (Below w.heap.size w w5) := k5.to_below hB'.out oO'.out
      have oQ : Hid (∀ k, Q k → w.heap.size ≤ k) := fun k hk => by
        rcases o5 k hk with h1 | h1
        · exact oO'.out k h1
        · have := hB'.out.size; omega
      have hx5w : w.heap.size ≤ x5 := by have := hB'.out.size; omega
      have b6 : Below w5.heap.size w5 (w5.alloc (.cells #[.int .i64 (sn : Nat), .int .i64 (sp : Nat), .slice a5 sm c5] 29)) := (Below.refl _ _).alloc (Nat.le_refl _) _
      have g6 : Hid (G (w5.alloc (.cells #[.int .i64 (sn : Nat), .int .i64 (sp : Nat), .slice a5 sm c5] 29)) Q g S) := hG'.out.below g5 b6
      have hB6 : Hid (Below w.heap.size w (w5.alloc (.cells #[.int .i64 (sn : Nat), .int .i64 (sp : Nat), .slice a5 sm c5] 29))) := below_via b6 hB5.out hB5.out.size
      have t6 : Hid (Three (w5.alloc (.cells #[.int .i64 (sn : Nat), .int .i64 (sp : Nat), .slice a5 sm c5] 29)) w5.heap.size (.int .i64 (sn : Nat)) (.int .i64 (sp : Nat)) (.slice a5 sm c5)) := by show Three _ _ _ _ _; (repeat' (first | (with_reducible first | assumption | exact Three.own (by with_reducible assumption) | refine Three.set ?_ _ _ _ | refine Own3.set ?_ _ _ _ | refine Three.drew ?_ | refine Three.drewN ?_ _ | refine Own3.drew ?_ | refine Own3.drewN ?_ _ | (refine Three.new ?_; simp only [szs]; done) | (refine Own3.new ?_; simp only [szs]; done) | refine Three.alloc ?_ _ | refine Own3.alloc ?_ _ | refine Three.far ?_ ?_ _ _ | refine Own3.far ?_ ?_ _ _ | refine Three.via (by with_reducible assumption) ?_ ?_ | refine Own3.via (by with_reducible assumption) ?_ ?_) | omega | (simp only [szs]; omega)))
      have r6 : Hid (RowsAt (w5.alloc (.cells #[.int .i64 (sn : Nat), .int .i64 (sp : Nat), .slice a5 sm c5] 29)).heap.size (w5.alloc (.cells #[.int .i64 (sn : Nat), .int .i64 (sp : Nat), .slice a5 sm c5] 29)) a5 sm R5) := ns.rows.to b6 (Nat.le_refl _)
      have v6 : Hid ((w5.alloc (.cells #[.int .i64 (sn : Nat), .int .i64 (sp : Nat), .slice a5 sm c5] 29)).cell? ⟨x5, 0, none⟩ = some (.int .u64 (S.v 0 : Nat)) ∧ (w5.alloc (.cells #[.int .i64 (sn : Nat), .int .i64 (sp : Nat), .slice a5 sm c5] 29)).frozen? ⟨x5, 0, none⟩ = false ∧ x5 < (w5.alloc (.cells #[.int .i64 (sn : Nat), .int .i64 (sp : Nat), .slice a5 sm c5] 29)).heap.size) := by
        have h1 := (wd.below b6 wd.lt).at_ 0 (by omega)
        exact ⟨h1, ((bcell b6).2 x5 0 wd.lt).trans (fx5 0), (wd.below b6 wd.lt).lt⟩
      obtain ⟨T, hTd⟩ : ∃ T : Nat → Prop, Hid (T = fun q => ∃ i, i < sm ∧ 0 < (R5 i 0).n ∧ ∃ y, (R5 i 0).ad = some y ∧ y.block = q) := ⟨_, rfl⟩
      have rin : ∀ i, i < sm → 0 < (R5 i 0).n → ∀ y, (R5 i 0).ad = some y → y.block < w5.heap.size := fun i hi h0 y hy => by
        rcases ns.rows with hz | ⟨ra, ro, e, t⟩
        · omega
        · rcases t.at_ i hi 0 (by decide) with hz | ⟨gb, go_, e2, l2, t2⟩
          · omega
          · rw [hy] at e2; cases e2; exact t2.lt
      have nTb : Hid (¬ T w5.heap.size) := fun h => by
        rw [hTd.out] at h
        obtain ⟨i, h1, h2, y, h3, h4⟩ := h
        have := rin i h1 h2 y h3; omega
      have nTr : Hid (∀ y, a5 = some y → ¬ T y.block) := fun y hy h => by
        rw [hTd.out] at h
        obtain ⟨i, h1, h2, z, h3, h4⟩ := h
        exact ns.apart i h1 0 (by decide) z y h3 h2 hy h4
      have nTx : Hid (¬ T x5) := fun h => by
        rw [hTd.out] at h
        obtain ⟨i, h1, h2, z, h3, h4⟩ := h
        exact lx5 i h1 0 (by decide) z h3 h2 h4
      have nTQ : Hid (∀ q, Q q → ¬ T q) := fun q hq h => by
        rw [hTd.out] at h
        obtain ⟨i, h1, h2, z, h3, h4⟩ := h
        exact (ns.lst i h1 0 (by decide) z h3 h2).2.1 (h4 ▸ hq)
      have nTw : Hid (∀ q, T q → w.heap.size ≤ q) := fun q h => by
        rw [hTd.out] at h
        obtain ⟨i, h1, h2, z, h3, h4⟩ := h
        have h5 := (ns.lst i h1 0 (by decide) z h3 h2).1
        have := hB'.out.size; omega
      have fT : Hid (∀ i, i < sm → ∀ y, (R5 i 0).ad = some y → 0 < (R5 i 0).n → ∀ o, (w5.alloc (.cells #[.int .i64 (sn : Nat), .int .i64 (sp : Nat), .slice a5 sm c5] 29)).frozen? ⟨y.block, o, none⟩ = false) := fun i hi y hy h0 o => ((bcell b6).2 y.block o (rin i hi h0 y hy)).trans ((ns.lst i hi 0 (by decide) y hy h0).2.2 o)
      have nQx : Hid (¬ Q x5) := nx5
      have ok5 : Hid (∀ i j, (R5 i j).Ok) := ns.ok
      clear cD g5 o5 k5 ns sy hd5 wd hx5 nx5 fx5 ax5 lx5 hB5 b6 rin hB' oO'
      generalize (w5.alloc (.cells #[.int .i64 (sn : Nat), .int .i64 (sp : Nat), .slice a5 sm c5] 29)) = W6 at *
      generalize w5.heap.size = bs at *
      go_wp2
      go_loopw [12] (fun si wr => ∃ i : Nat, i ≤ sm ∧ si = .int .i64 i ∧ Hid (Scr T W6 wr)) (fun si _ => sm - (intOf si).toNat)
      case atStart => exact ⟨0, by omega, rfl, Scr.refl _ _⟩
      case round =>
        obtain ⟨i, hi, rfl, hC⟩ := hrel
        have t7 := t6.out.keepO hC.out.k nTb.out
        have ⟨f1, f2, f3, f4, f5, f6, f7⟩ := t7
        by_cases hli : i < sm
        · have hli' : (i : Int) < (sm : Int) := by omega
          go_upto_region 30 with (fail)
          clear f1 f2 f3 f4 f5 f6 f7 t7
          go_wp2
          go_loopw [13] (fun sk wr => ∃ k : Nat, k ≤ (R5 i 0).n ∧ sk = .int .i64 k ∧ Hid (Scr T W6 wr)) (fun sk _ => (R5 i 0).n - (intOf sk).toNat)
          case atStart => exact ⟨0, by omega, rfl, hC⟩
          case round =>
            clear hC
            obtain ⟨k, hk, rfl, hC⟩ := hrel
            have t7 := t6.out.keepO hC.out.k nTb.out
            have ⟨f1, f2, f3, f4, f5, f6, f7⟩ := t7
            rcases r6.out with hz | ⟨ra, ro, rfl, tr⟩
            · omega
            have q0 : wr.cell? ⟨ra, ro + i * 3, none⟩ = some (.slice (R5 i 0).ad (R5 i 0).n (R5 i 0).c) := hC.out.k.cell (tr.cell i hli 0 (by decide)) (nTr.out _ rfl)
            have okn := ok5.out i 0
            by_cases hlk : k < (R5 i 0).n
            · have hlk' : (k : Int) < ((R5 i 0).n : Int) := by omega
              rcases tr.at_ i hli 0 (by decide) with hz | ⟨gb, go_, hgb, l2, t2⟩
              · omega
              obtain ⟨x0, p0⟩ := hC.out.c _ _ _ (t2.c0 k hlk)
              obtain ⟨x1, p1⟩ := hC.out.c _ _ _ (t2.c1 k hlk)
              have z0 := (hC.out.f ⟨gb, go_ + k * 2, none⟩ t2.lt).trans (fT.out i hli _ hgb (by omega) _)
              have z1 := (hC.out.f ⟨gb, go_ + k * 2 + 1, none⟩ t2.lt).trans (fT.out i hli _ hgb (by omega) _)
              have hTg : T gb := by rw [hTd.out]; exact ⟨i, hli, by omega, _, hgb, rfl⟩
              have hC2 : Hid (Scr T W6 ((wr.setCell ⟨gb, go_ + k * 2, none⟩ (.int .i64 (-1))).setCell ⟨gb, go_ + k * 2 + 1, none⟩ (.int .u64 0))) := (hC.out.set gb _ _ hTg).set gb _ _ hTg
              rw [hgb] at q0
              have hn64 : ((R5 i 0).n : Int) ≤ 9223372036854775807 := by have := okn.n1; have := okn.n2; omega
              generalize (R5 i 0).n = n0 at *
              generalize (R5 i 0).c = cc0 at *
              clear okn hgb t2 tr hTg
              go_upto_region 32 with (fail)
              clear hC q0 p0 p1 z0 z1 f1 f2 f3 f4 f5 f6 f7 t7
              go_wp2
              go_roundw
              case rel => exact ⟨k + 1, by omega, by go_num, hC2⟩
              case measure => (simp [intOf]; omega)
            · have hlk' : ¬ (k : Int) < ((R5 i 0).n : Int) := by omega
              clear tr okn
              go_wp2
              go_roundw
              case rel => exact ⟨i + 1, by omega, by go_num, hC⟩
              case measure => (simp [intOf]; omega)
        · have hli' : ¬ (i : Int) < (sm : Int) := by omega
          have hk6 := hC.out.k
          have v7 : wr.cell? ⟨x5, 0, none⟩ = some (.int .u64 (S.v 0 : Nat)) := hk6.cell v6.out.1 nTx.out
          have z7 : wr.frozen? ⟨x5, 0, none⟩ = false := (hC.out.f ⟨x5, 0, none⟩ v6.out.2.2).trans v6.out.2.1
          have hB7 : Below w.heap.size w wr := hB6.out.trans (hk6.below (fun q hq h => by have := nTw.out q h; omega) hB6.out.size)
          have g7 : G wr Q g S := hG'.out.keep g6.out hk6 nTQ.out
          have kb := KeepO.setBox wr x5 0 (.int .u64 5)
          have g11 : G (wr.setCell ⟨x5, 0, none⟩ (.int .u64 5)) Q g S := hG'.out.keep g7 kb fun q hq e => nQx.out (e ▸ hq)
          have hB11 : Hid (Below w.heap.size w (wr.setCell ⟨x5, 0, none⟩ (.int .u64 5))) := hB7.trans (kb.below (fun q hq e => by have h : q = x5 := e; omega) hB7.size)
          have cE := hG'.out.done (wr.setCell ⟨x5, 0, none⟩ (.int .u64 5)) Q g S g11 fD'.out
          unfold rankV at cE
          rw [hsn.out, hsp.out, hsm.out] at cE
          have hsn1 : (0 : Int) < (sn : Int) := by omega
          clear hC hk6 hB7 g7 kb g11 t6 r6 v6 nTb nTr nTx nTQ nTw fT nQx ok5 g6 hB6 hTd
          go_upto_region 35 with (fail)
          generalize (wr.setCell ⟨x5, 0, none⟩ (.int .u64 5)) = W11 at *
          clear v7 z7 f1 f2 f3 f4 f5 f6 f7 t7
          go_upto_region 36 with (go_at_call 15; (with_reducible refine cE.mono ?_); rintro e w12 ⟨Q12, a12, c12, R12, x12, d12, rfl, g12, o12, k12, ns, sy, hd12, wd, hx12, _, _, _, _⟩)
          have hB12 : Below w.heap.size w w12 := k12.to_below hB11.out oQ.out
          have b13 : Below w12.heap.size w12 (w12.alloc (.cells #[.int .i64 (sn : Nat), .int .i64 (sp : Nat), .slice a12 sm c12] 29)) := (Below.refl _ _).alloc (Nat.le_refl _) _
          have hB13 : Hid (Below w.heap.size w (w12.alloc (.cells #[.int .i64 (sn : Nat), .int .i64 (sp : Nat), .slice a12 sm c12] 29))) := below_via b13 hB12 hB12.size
          have t13 : Three (w12.alloc (.cells #[.int .i64 (sn : Nat), .int .i64 (sp : Nat), .slice a12 sm c12] 29)) w12.heap.size (.int .i64 (sn : Nat)) (.int .i64 (sp : Nat)) (.slice a12 sm c12) := by (repeat' (first | (with_reducible first | assumption | exact Three.own (by with_reducible assumption) | refine Three.set ?_ _ _ _ | refine Own3.set ?_ _ _ _ | refine Three.drew ?_ | refine Three.drewN ?_ _ | refine Own3.drew ?_ | refine Own3.drewN ?_ _ | (refine Three.new ?_; simp only [szs]; done) | (refine Own3.new ?_; simp only [szs]; done) | refine Three.alloc ?_ _ | refine Own3.alloc ?_ _ | refine Three.far ?_ ?_ _ _ | refine Own3.far ?_ ?_ _ _ | refine Three.via (by with_reducible assumption) ?_ ?_ | refine Own3.via (by with_reducible assumption) ?_ ?_) | omega | (simp only [szs]; omega)))
          have u0 := (wd.below b13 wd.lt).at_ 0 (by omega)
          rw [hv1.out, Nat.add_zero] at u0
          have hchk : Hid (checkB (sn : Nat) (sp : Nat) sm R12 = true) := by
            have h := sy.check fD'.out.1 (Nat.le_trans fD'.out.2.1 (by decide)) (Nat.le_trans fD'.out.2.2 (by decide))
            rw [hsn.out, hsp.out, hsm.out] at h
            exact h
          have cK := hC'.out (sn : Nat) (sp : Nat) a12 sm c12 R12 ns.ok (by omega) (by omega) (by omega) (by omega) (by omega) (w12.alloc (.cells #[.int .i64 (sn : Nat), .int .i64 (sp : Nat), .slice a12 sm c12] 29)) (ns.rows.to b13 (Nat.le_refl _))
          rw [if_pos hchk.out] at cK
          unfold rankV at cK
          generalize (w12.alloc (.cells #[.int .i64 (sn : Nat), .int .i64 (sp : Nat), .slice a12 sm c12] 29)) = W13 at *
          generalize w12.heap.size = bt at *
          have ⟨f1, f2, f3, f4, f5, f6, f7⟩ := t13
          have u0' : W13.cell? ⟨x12, 0, none⟩ = some (.int .u64 1) := u0
          clear cE g12 o12 k12 ns sy hd12 wd hx12 hB12 b13 t13 u0 hchk
          go_wp2_with (go_at_call 27; (with_reducible refine cK.mono ?_); rintro e w14 ⟨rfl, b14⟩; have hend : Hid (Below w.heap.size w w14) := below_via b14 hB13.out hB13.out.size; clear b14)
          (try go_ret)
          exact ⟨rfl, hend.out⟩
end Go.Proofs.Ytdbolfmmlmoiaaa

namespace Go.Proofs.Ytdbolfmmlmoiaaa
open Go.RowKit Go.Proofs
set_option linter.unusedVariables false
set_option linter.unusedSimpArgs false
theorem up12W (w : World) : Calls Try.prog 9 #[] w fun e w' => e = .returned (.bool true) ∧ Below w.heap.size w w' := by
  obtain ⟨G, hG⟩ := gadC
  exact up12_of hG rankHoldsC w
theorem gadgetPlays_walk (a0 : Option Addr) (n0 c0 : Nat) (D0 : Nat → Dd) (w : World) (m0 : n0 ≤ 9223372036854775807) (w0 : DdsAt w.heap.size w a0 n0 D0) :
    Calls Try.prog 3 #[.slice a0 n0 c0] w fun e w' => e = .returned (.bool true) ∧ Below w.heap.size w w' := by
  obtain ⟨G, hG⟩ := gadC
  exact gplays_of hG a0 n0 c0 D0 m0 w w0 up12W
theorem gadgetShape_walk (a0 : Option Addr) (n0 c0 : Nat) (D0 : Nat → Dd) (a1 : Option Addr) (len1 cap1 : Nat) (z1 : List Int) (w : World) (m0 : n0 ≤ 9223372036854775807) (w0 : DdsAt w.heap.size w a0 n0 D0) (w1 : IsRow .u64 w a1 len1 cap1 z1) :
    Calls Try.prog 4 #[.slice a0 n0 c0, .slice a1 len1 cap1] w fun e w' => e = .returned (.bool true) ∧ Below w.heap.size w w' := by
  obtain ⟨G, hG⟩ := gadC
  obtain ⟨x, h1, h2, hx, hs, _, _⟩ := srcW_of_isRow w1
  exact gshape_of hG a0 n0 c0 D0 m0 a1 len1 cap1 (by unfold maxLen at h2; omega) x hx w w0 hs up12W
theorem gadgetHolds_walk (a0 : Option Addr) (n0 c0 : Nat) (D0 : Nat → Dd) (w : World) (m0 : n0 ≤ 9223372036854775807) (w0 : DdsAt w.heap.size w a0 n0 D0) :
    Calls Try.prog 5 #[.slice a0 n0 c0] w fun e w' => e = .returned (.bool true) ∧ Below w.heap.size w w' := by
  obtain ⟨G, hG⟩ := gadC
  exact gholds_of hG rankHoldsC a0 n0 c0 D0 m0 w w0 up12W
theorem gadgetStays_walk (a0 : Option Addr) (n0 c0 : Nat) (D0 : Nat → Dd) (w : World) (m0 : n0 ≤ 9223372036854775807) (w0 : DdsAt w.heap.size w a0 n0 D0) :
    Calls Try.prog 8 #[.slice a0 n0 c0] w fun e w' => e = .returned (.bool true) ∧ Below w.heap.size w w' := by
  obtain ⟨G, hG⟩ := gadC
  exact gstays_of hG rankCheckC a0 n0 c0 D0 m0 w w0 up12W
theorem gadgetHash_walk (a0 a1 : Int) (a2 : Option Addr) (len2 cap2 : Nat) (z2 : List Int) (w : World) (w0 : (Lit.int .u64 a0).wf = true) (w1 : (Lit.int .u64 a1).wf = true) (w2 : IsRow .u64 w a2 len2 cap2 z2) :
    Calls Try.prog 6 #[.int .u64 a0, .int .u64 a1, .slice a2 len2 cap2] w fun e w' => e = .returned (.bool true) ∧ Below w.heap.size w w' := by
  obtain ⟨G, hG⟩ := gadC
  obtain ⟨x, rfl, hx⟩ := word_of w0
  obtain ⟨y, rfl, hy⟩ := word_of w1
  obtain ⟨l, _, _, hl, hs, _, _⟩ := srcW_of_isRow w2
  by_cases h : 5 < len2
  · exact ghash_out hG _ _ a2 len2 cap2 h w up12W
  · exact ghash_of hG rankHoldsC x y hx hy a2 len2 cap2 (by omega) l hl w hs up12W
theorem gadgetOnly_walk (a0 a1 a2 a3 : Int) (w : World) (w0 : (Lit.int .u64 a0).wf = true) (w1 : (Lit.int .u64 a1).wf = true) (w2 : (Lit.int .i64 a2).wf = true) (w3 : (Lit.int .u64 a3).wf = true) :
    Calls Try.prog 7 #[.int .u64 a0, .int .u64 a1, .int .i64 a2, .int .u64 a3] w fun e w' => e = .returned (.bool true) ∧ Below w.heap.size w w' := by
  obtain ⟨G, hG⟩ := gadC
  obtain ⟨x, rfl, hx⟩ := word_of w0
  obtain ⟨y, rfl, hy⟩ := word_of w1
  obtain ⟨z, rfl, hz⟩ := word_of w3
  exact gonly_of hG rankHoldsC x y z hx hy hz a2 w up12W
end Go.Proofs.Ytdbolfmmlmoiaaa
