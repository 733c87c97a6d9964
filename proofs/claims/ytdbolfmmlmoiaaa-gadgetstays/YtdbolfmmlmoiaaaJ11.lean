/-
  Joined texts: The walk of layer 12's statement that a system doesn't hang on values (GadgetShape), over what package gadget's calls answer. The walk of layer 12's statement that a system that was made holds just if all that was asked is so (GadgetHolds), over what package gadget's and rank's calls answer. Two makers side by side (layer 12): the program's and the document's, with a deed in a variable. The walk of the statements' own way to play a deed on both makers (obollaw12.do): numbers of one's own, sums, hashes of two. The walk of the statements' own way to play a deed on both makers (obollaw12.do): products, equal numbers.
-/
import Derived.Test.YtdbolfmmlmoiaaaJ10
import Derived.Test.YtdbolfmmlmoiaaaJ5

namespace Go.Proofs.Ytdbolfmmlmoiaaa
open Go.RowKit Go.Proofs
set_option linter.unusedVariables false
set_option linter.unusedSimpArgs false
attribute [local go_sem ↓] Go.wp_at_zero Go.wp_at_succ
/-- Two makers side by side, of memory that wasn't there in w0. -/
def TwoM (G : Mkr) (w0 w : World) (g h : Nat) (S T : Mk) : Prop := ∃ O P : Nat → Prop, G w O g S ∧ G w P h T ∧ (∀ k, O k → ¬ P k) ∧ (∀ k, O k → w0.heap.size ≤ k) ∧ (∀ k, P k → w0.heap.size ≤ k) ∧ Below w0.heap.size w0 w
theorem TwoM.below {G : Mkr} (hG : GadC G) {w0 w w' : World} {g h : Nat} {S T : Mk} (t : TwoM G w0 w g h S T) (hb : Below w.heap.size w w') : TwoM G w0 w' g h S T := by
  obtain ⟨O, P, h1, h2, h3, h4, h5, h6⟩ := t
  exact ⟨O, P, hG.below h1 hb, hG.below h2 hb, h3, h4, h5, below_via hb h6 h6.size⟩
theorem TwoM.right {G : Mkr} (hG : GadC G) {w0 w w' : World} {g h : Nat} {S T T' : Mk} {O P P' : Nat → Prop} (h1 : G w O g S) (h3 : ∀ k, O k → ¬ P k) (h4 : ∀ k, O k → w0.heap.size ≤ k) (h5 : ∀ k, P k → w0.heap.size ≤ k) (h6 : Below w0.heap.size w0 w)
   (h0 : G w P h T) (h2 : G w' P' h T') (hp : ∀ k, P' k → P k ∨ w.heap.size ≤ k) (hk : KeepO P w w') : TwoM G w0 w' g h S T' := by
  refine ⟨O, P', hG.keep h1 hk h3, h2, fun k hk hk' => ?_, h4, fun k hk => ?_, hk.to_below h6 h5⟩
  · rcases hp k hk' with h | h
    · exact h3 k hk h
    · have := hG.lt h1 k hk; omega
  · have := h6.size
    rcases hp k hk with h | h
    · exact h5 k h
    · omega
set_option maxRecDepth 8000 in
set_option maxHeartbeats 32000000 in
theorem gshape_of {G : Mkr} (hG : GadC G) (ad : Option Addr) (n c : Nat) (D : Nat → Dd) (hn : n ≤ 9223372036854775807) (av : Option Addr) (nv cv : Nat) (hnv : nv ≤ 9223372036854775807) (x : Nat → Nat) (hx : ∀ i, x i < 18446744073709551616) (w : World) (hD : DdsAt w.heap.size w ad n D) (hs : SrcW w.heap.size w av nv x)
   (cu : ∀ w, Calls Try.prog 9 #[] w fun e w' => e = .returned (.bool true) ∧ Below w.heap.size w w') :
    Calls Try.prog 4 #[.slice ad n c, .slice av nv cv] w fun e w' => e = .returned (.bool true) ∧ Below w.heap.size w w' := by
  have hG' : Hid (GadC G) := hG
  have hD' : Hid (DdsAt w.heap.size w ad n D) := hD
  have hs' : Hid (SrcW w.heap.size w av nv x) := hs
  have hx' : Hid (∀ i, x i < 18446744073709551616) := hx
  have cN := hG.new
  obtain ⟨E, hE⟩ : ∃ E : Nat → Dd, Hid (E = fun j => (D j).by_ (if j < nv then x j else (D j).k)) := ⟨_, rfl⟩
  have hshp : Hid (∀ i, Shp (Mk.plays D i) (Mk.plays E i)) := fun i => by rw [hE.out]; exact plays_shape D _ i
  clear hG hD hs hx
  go_enter Try.func4, Try.ntmps4
  go_upto_region 3 with (first | (go_at_call 9; (with_reducible refine (cu _).mono ?_); rintro e wu ⟨rfl, bu⟩) | (go_at_call 10; (with_reducible refine (cN _).mono ?_); rintro e w1 ⟨g, O, rfl, g0, o0, b1⟩))
  go_upto_region 6 with (go_at_call 10; (with_reducible refine (cN _).mono ?_); rintro e w2 ⟨h, P, rfl, p0, q0, b2⟩)
  have zu := bu.size
  have z1 := b1.size
  have hB1 : Below w.heap.size w w1 := below_via b1 bu zu
  have hT0 : Hid (TwoM G w w2 g h Mk.new Mk.new) := ⟨O, P, hG'.out.below g0 b2, p0, fun k ho hp => by have := hG'.out.lt g0 k ho; have := q0 k hp; omega, fun k hk => by have := o0 k hk; omega, fun k hk => by have := q0 k hk; omega, below_via b2 hB1 hB1.size⟩
  clear cN cu g0 o0 b1 p0 q0 b2 bu zu z1 hB1
  go_wp2
  go_loopw [8] (fun si wr => ∃ i : Nat, i ≤ n ∧ i ≤ 20 ∧ si = .int .i64 i ∧ Hid (TwoM G w wr g h (Mk.plays D i) (Mk.plays E i))) (fun si _ => n - (intOf si).toNat)
  case atStart => exact ⟨0, by omega, by omega, rfl, hT0⟩
  case round =>
    clear hT0
    obtain ⟨i, hi, hi20, rfl, hT⟩ := hrel
    by_cases hlt : i < n
    · have hlt' : (i : Int) < (n : Int) := by omega
      by_cases hl20 : i < 20
      · have hl20' : (i : Int) < 20 := by omega
        rcases hD'.out with hz | ⟨b, off, rfl, dd⟩
        · omega
        have hEi : Hid (E i = (D i).by_ (if i < nv then x i else (D i).k)) := by show E i = _; rw [hE.out]
        have ddi : Hid ((D i).At w.heap.size w) := dd.at_ i hlt
        have dd' : Hid (DdsIn w.heap.size w b off n D) := dd
        have hBw : Hid (Below w.heap.size w wr) := by obtain ⟨_, _, _, _, _, _, _, h6⟩ := hT.out; exact h6
        have ⟨d0, d1, d2, d3, d4, d5, d6⟩ := dd.parts hBw.out hlt
        have cs := msmallW (D i)
        unfold Dd.val Lst.val at cs
        clear dd
        cases hsm : (D i).small with
        | false =>
          rw [hsm] at cs
          have hT2 : Hid (∀ w1, Below wr.heap.size wr w1 → TwoM G w w1 g h (Mk.plays D (i + 1)) (Mk.plays E (i + 1))) := fun w1 hb => by
            have e2 : (E i).small = false := by rw [hEi.out]; exact hsm
            rw [plays_no hsm, plays_no e2]
            exact TwoM.below hG'.out hT.out hb
          go_wp2_with (go_at_call 11; (with_reducible refine (cs _).mono ?_); rintro e w1 ⟨rfl, b1⟩)
          have hT3 : Hid (TwoM G w w1 g h (Mk.plays D (i + 1)) (Mk.plays E (i + 1))) := hT2.out w1 b1
          clear d0 d1 d2 d3 d4 d5 d6 hT2 b1
          go_roundw
          case rel => exact ⟨i + 1, by omega, by omega, by go_num, hT3⟩
          case measure => (simp [intOf]; omega)
        | true =>
          rw [hsm] at cs
          obtain ⟨O, P, gO, gP, dis, oO, oP, hB⟩ := hT.out
          have gO' : Hid (G wr O g (Mk.plays D i)) := gO
          have gP' : Hid (G wr P h (Mk.plays E i)) := gP
          have hdis : Hid (∀ k, O k → ¬ P k) := dis
          have hoO : Hid (∀ k, O k → w.heap.size ≤ k) := oO
          have hoP : Hid (∀ k, P k → w.heap.size ≤ k) := oP
          have hsmE : Hid ((E i).small = true) := by show _ = _; rw [hEi.out]; exact hsm
          clear gO gP dis oO oP hB hT
          go_upto_region 11 with (go_at_call 11; (with_reducible refine (cs _).mono ?_); rintro e w1 ⟨rfl, b1⟩)
          have hB1 : Hid (Below w.heap.size w w1) := below_via b1 hBw.out hBw.out.size
          have b1' : Hid (Below wr.heap.size wr w1) := b1
          have zr := b1.size
          clear d0 d1 d2 d3 d4 d5 d6 cs b1
          have ⟨d0, d1, d2, d3, d4, d5, d6⟩ := dd'.out.parts hB1.out hlt
          go_upto_region 12 with (fail)
          have hbx : Hid (DdB (w1.alloc (.cells #[.int .i64 (D i).what, .int .i64 (D i).a, .int .i64 (D i).b, .int .i64 (D i).n, .int .u64 ((D i).k : Nat), .slice (D i).L.ad (D i).L.n (D i).L.c, .slice (D i).ad (D i).m (D i).c] 38)) w1.heap.size (D i)) := DdB.new w1 (D i) _
          have b2 : Hid (Below wr.heap.size wr (w1.alloc (.cells #[.int .i64 (D i).what, .int .i64 (D i).a, .int .i64 (D i).b, .int .i64 (D i).n, .int .u64 ((D i).k : Nat), .slice (D i).L.ad (D i).L.n (D i).L.c, .slice (D i).ad (D i).m (D i).c] 38))) := b1'.out.alloc zr _
          have hB2 : Hid (Below w.heap.size w (w1.alloc (.cells #[.int .i64 (D i).what, .int .i64 (D i).a, .int .i64 (D i).b, .int .i64 (D i).n, .int .u64 ((D i).k : Nat), .slice (D i).L.ad (D i).L.n (D i).L.c, .slice (D i).ad (D i).m (D i).c] 38))) := hB1.out.alloc hB1.out.size _
          have z2 : w1.heap.size < (w1.alloc (.cells #[.int .i64 (D i).what, .int .i64 (D i).a, .int .i64 (D i).b, .int .i64 (D i).n, .int .u64 ((D i).k : Nat), .slice (D i).L.ad (D i).L.n (D i).L.c, .slice (D i).ad (D i).m (D i).c] 38)).heap.size := hbx.out.lt
          have e := hbx.out.cells
          generalize (w1.alloc (.cells #[.int .i64 (D i).what, .int .i64 (D i).a, .int .i64 (D i).b, .int .i64 (D i).n, .int .u64 ((D i).k : Nat), .slice (D i).L.ad (D i).L.n (D i).L.c, .slice (D i).ad (D i).m (D i).c] 38)) = W2 at *
          generalize w1.heap.size = bd at *
          have ⟨e0, e1, e2, e3, e4, e5, e6⟩ := e
          clear d0 d1 d2 d3 d4 d5 d6 e hB1 b1'
          have gO2 : Hid (G W2 O g (Mk.plays D i)) := hG'.out.below gO'.out b2.out
          have gP2 : Hid (G W2 P h (Mk.plays E i)) := hG'.out.below gP'.out b2.out
          have nO : Hid (¬ O bd) := fun hh => by have := hG'.out.lt gO'.out bd hh; omega
          have nP : Hid (¬ P bd) := fun hh => by have := hG'.out.lt gP'.out bd hh; omega
          have cc1 : Calls Try.prog 17 #[.pointer (some ⟨g, 0, none⟩), .agg #[.int .i64 (D i).what, .int .i64 (D i).a, .int .i64 (D i).b, .int .i64 (D i).n, .int .u64 ((D i).k : Nat), .slice (D i).L.ad (D i).L.n (D i).L.c, .slice (D i).ad (D i).m (D i).c]] W2 fun e w' => e = .returned (.tuple #[]) ∧ GAfter G O W2 w' g (Mk.plays D (i + 1)) := by
            rw [plays_yes hsm]
            exact mcallW hG'.out O g (Mk.plays D i) (plays_fit D (by omega)) (D i) (small_le hsm) W2 gO2.out (ddi.out.to hB2.out (Nat.le_refl _)) (ddi.out.apt hoO.out)
          clear gO' gP'
          go_upto_region 13 with (go_at_call 17; (with_reducible refine cc1.mono ?_); rintro e w3 ⟨rfl, O', gO3, oO3, k3⟩)
          have hbx3 : Hid (DdB w3 bd (D i)) := hbx.out.keepO k3 nO.out
          have gO3' : Hid (G w3 O' g (Mk.plays D (i + 1))) := gO3
          have gP3 : Hid (G w3 P h (Mk.plays E i)) := hG'.out.keep gP2.out k3 (fun k hp ho => hdis.out k ho hp)
          have hB3 : Hid (Below w.heap.size w w3) := k3.to_below hB2.out hoO.out
          have nO3 : Hid (¬ O' bd) := fun hh => by
            rcases oO3 bd hh with h1 | h1
            · exact nO.out h1
            · omega
          have hdis3 : Hid (∀ k, O' k → ¬ P k) := fun k hk hp => by
            rcases oO3 k hk with h1 | h1
            · exact hdis.out k h1 hp
            · have := hG'.out.lt gP2.out k hp; omega
          have hoO3 : Hid (∀ k, O' k → w.heap.size ≤ k) := fun k hk => by
            rcases oO3 k hk with h1 | h1
            · exact hoO.out k h1
            · have := hB2.out.size; omega
          have z3 := k3.size
          have hbd : w.heap.size ≤ bd := by have := hBw.out.size; omega
          clear e0 e1 e2 e3 e4 e5 e6 cc1 gO3 oO3 k3 hbx b2 hB2 gO2 gP2 nO hdis hoO
          by_cases hiv : i < nv
          · have hiv' : (i : Int) < (nv : Int) := by omega
            rcases hs'.out with hz | ⟨bv, ov, rfl, lv, wv⟩
            · omega
            have dv := (wv.below hB3.out lv).at_ i hiv
            have f4 := hbx3.out.fr 4
            have e4 := hbx3.out.c4
            have hxi := hx'.out i
            have hEi2 : Hid (E i = (D i).by_ (x i)) := by have h1 := hEi.out; rw [if_pos hiv] at h1; exact h1
            clear wv hEi
            have hEi := hEi2
            clear hEi2
            go_upto_region 15 with (fail)
            have hbx4 : Hid (DdB (w3.setCell ⟨bd, 4, none⟩ (.int .u64 (x i : Nat))) bd ((D i).by_ (x i))) := hbx3.out.setK _
            have kb := KeepO.setBox w3 bd 4 (.int .u64 (x i : Nat))
            have gO4 : Hid (G (w3.setCell ⟨bd, 4, none⟩ (.int .u64 (x i : Nat))) O' g (Mk.plays D (i + 1))) := hG'.out.keep gO3'.out kb fun k hk e => nO3.out (e ▸ hk)
            have gP4 : Hid (G (w3.setCell ⟨bd, 4, none⟩ (.int .u64 (x i : Nat))) P h (Mk.plays E i)) := hG'.out.keep gP3.out kb fun k hk e => nP.out (e ▸ hk)
            have hB4 : Hid (Below w.heap.size w (w3.setCell ⟨bd, 4, none⟩ (.int .u64 (x i : Nat)))) := hB3.out.trans (kb.below (fun k hk e => by omega) (by have := hB3.out.size; omega))
            have hdis4 := hdis3
            have hoO4 := hoO3
            clear dv f4 e4 kb hbx3 gO3' gP3 hB3 hdis3 hoO3
            generalize (w3.setCell ⟨bd, 4, none⟩ (.int .u64 (x i : Nat))) = W4 at *
            generalize x i = xi at *
            have cc2 : Calls Try.prog 17 #[.pointer (some ⟨h, 0, none⟩), .agg #[.int .i64 (D i).what, .int .i64 (D i).a, .int .i64 (D i).b, .int .i64 (D i).n, .int .u64 (xi : Nat), .slice (D i).L.ad (D i).L.n (D i).L.c, .slice (D i).ad (D i).m (D i).c]] W4 fun e w' => e = .returned (.tuple #[]) ∧ GAfter G P W4 w' h (Mk.plays E (i + 1)) := by
              have hr := mcallW hG'.out P h (Mk.plays E i) (plays_fit E (by omega)) ((D i).by_ (xi)) (small_le hsm) W4 gP4.out ((ddi.out.to hB4.out (Nat.le_refl _)).by_ _ hxi) (ddi.out.apt hoP.out)
              rw [plays_yes (D := E) hsmE.out, hEi.out]
              exact hr
            have e := hbx4.out.cellsK
            have ⟨e0, e1, e2, e3, e4, e5, e6⟩ := e
            clear e
            go_wp2_with (go_at_call 17; (with_reducible refine cc2.mono ?_); rintro e w5 ⟨rfl, P', gP5, oP5, k5⟩)
            have hT5 : Hid (TwoM G w w5 g h (Mk.plays D (i + 1)) (Mk.plays E (i + 1))) := TwoM.right hG'.out gO4.out hdis4.out hoO4.out hoP.out hB4.out gP4.out gP5 oP5 k5
            clear e0 e1 e2 e3 e4 e5 e6 cc2 gP5 oP5 k5 hbx4 gO4 gP4 hdis4 hoO4 hoP hB4
            go_roundw
            case rel => exact ⟨i + 1, by omega, by omega, by go_num, hT5⟩
            case measure => (simp [intOf]; omega)
          · have hiv' : ¬ (i : Int) < (nv : Int) := by omega
            have hEi2 : Hid (E i = (D i).by_ (D i).k) := by have h1 := hEi.out; rw [if_neg hiv] at h1; exact h1
            have hbx4 := hbx3
            have gO4 := gO3'
            have gP4 := gP3
            have hB4 := hB3
            have hdis4 := hdis3
            have hoO4 := hoO3
            have hki := ddi.out.k
            clear hEi hbx3 gO3' gP3 hB3 hdis3 hoO3
            have hEi := hEi2
            clear hEi2
            go_upto_region 15 with (fail)
            have cc2 : Calls Try.prog 17 #[.pointer (some ⟨h, 0, none⟩), .agg #[.int .i64 (D i).what, .int .i64 (D i).a, .int .i64 (D i).b, .int .i64 (D i).n, .int .u64 ((D i).k : Nat), .slice (D i).L.ad (D i).L.n (D i).L.c, .slice (D i).ad (D i).m (D i).c]] w3 fun e w' => e = .returned (.tuple #[]) ∧ GAfter G P w3 w' h (Mk.plays E (i + 1)) := by
              have hr := mcallW hG'.out P h (Mk.plays E i) (plays_fit E (by omega)) ((D i).by_ ((D i).k)) (small_le hsm) w3 gP4.out ((ddi.out.to hB4.out (Nat.le_refl _)).by_ _ hki) (ddi.out.apt hoP.out)
              rw [plays_yes (D := E) hsmE.out, hEi.out]
              exact hr
            have e := hbx4.out.cells
            have ⟨e0, e1, e2, e3, e4, e5, e6⟩ := e
            clear e
            go_wp2_with (go_at_call 17; (with_reducible refine cc2.mono ?_); rintro e w5 ⟨rfl, P', gP5, oP5, k5⟩)
            have hT5 : Hid (TwoM G w w5 g h (Mk.plays D (i + 1)) (Mk.plays E (i + 1))) := TwoM.right hG'.out gO4.out hdis4.out hoO4.out hoP.out hB4.out gP4.out gP5 oP5 k5
            clear e0 e1 e2 e3 e4 e5 e6 cc2 gP5 oP5 k5 hbx4 gO4 gP4 hdis4 hoO4 hoP hB4
            go_roundw
            case rel => exact ⟨i + 1, by omega, by omega, by go_num, hT5⟩
            case measure => (simp [intOf]; omega)
      · have hl20' : ¬ (i : Int) < 20 := by omega
        obtain ⟨O, P, gO, gP, dis, oO, oP, hB⟩ := hT.out
        have fD := plays_fit D hi20
        have fE := plays_fit E hi20
        obtain ⟨q1, q2, q3, q4⟩ := hshp.out i
        generalize Mk.plays D i = S at *
        generalize Mk.plays E i = T at *
        have gP' : Hid (G wr P h T) := gP
        have dis' : Hid (∀ k, O k → ¬ P k) := dis
        have oO' : Hid (∀ k, O k → w.heap.size ≤ k) := oO
        have oP' : Hid (∀ k, P k → w.heap.size ≤ k) := oP
        have hB' : Hid (Below w.heap.size w wr) := hB
        have fE' : Hid T.fit := fE
        have hm3 := fD.2.2
        have cD := hG'.out.done wr O g S gO fD
        unfold rankV at cD
        obtain ⟨sn, hsn⟩ : ∃ sn, Hid (S.n = sn) := ⟨_, rfl⟩
        obtain ⟨sp, hsp⟩ : ∃ sp, Hid (S.pub = sp) := ⟨_, rfl⟩
        obtain ⟨sm, hsm⟩ : ∃ sm, Hid (S.m = sm) := ⟨_, rfl⟩
        have q1' : Hid (T.pub = sp) := by show _ = _; rw [← q1]; exact hsp.out
        have q2' : Hid (T.n = sn) := by show _ = _; rw [← q2]; exact hsn.out
        have q3' : Hid (T.m = sm) := by show _ = _; rw [← q3]; exact hsm.out
        have q4' : Hid (S.R = T.R) := q4
        rw [hsn.out, hsp.out, hsm.out] at cD
        rw [hsm.out] at hm3
        clear gP dis oO oP hB fE fD q1 q2 q3 q4 hT
        go_upto_region 17 with (go_at_call 15; (with_reducible refine cD.mono ?_); rintro e w5 ⟨Q, a5, c5, R5, x5, d5, rfl, g5, o5, k5, ns, sy, _, wd, hx5, _, _, _, _⟩)
        have ns' : Hid (NewSys wr.heap.size Q w5 a5 sm R5) := ns
        have sy' : Hid (SysOf S R5) := sy
        have hB5 : Hid (Below w.heap.size w w5) := k5.to_below hB'.out oO'.out
        have gP5 : G w5 P h T := hG'.out.keep gP'.out k5 (fun k hp ho => dis'.out k ho hp)
        have b6 : Below w5.heap.size w5 (w5.alloc (.cells #[.int .i64 (sn : Nat), .int .i64 (sp : Nat), .slice a5 sm c5] 29)) := (Below.refl _ _).alloc (Nat.le_refl _) _
        have t6 : Hid (Three (w5.alloc (.cells #[.int .i64 (sn : Nat), .int .i64 (sp : Nat), .slice a5 sm c5] 29)) w5.heap.size (.int .i64 (sn : Nat)) (.int .i64 (sp : Nat)) (.slice a5 sm c5)) := by show Three _ _ _ _ _; (repeat' (first | (with_reducible first | assumption | exact Three.own (by with_reducible assumption) | refine Three.set ?_ _ _ _ | refine Own3.set ?_ _ _ _ | refine Three.drew ?_ | refine Three.drewN ?_ _ | refine Own3.drew ?_ | refine Own3.drewN ?_ _ | (refine Three.new ?_; simp only [szs]; done) | (refine Own3.new ?_; simp only [szs]; done) | refine Three.alloc ?_ _ | refine Own3.alloc ?_ _ | refine Three.far ?_ ?_ _ _ | refine Own3.far ?_ ?_ _ _ | refine Three.via (by with_reducible assumption) ?_ ?_ | refine Own3.via (by with_reducible assumption) ?_ ?_) | omega | (simp only [szs]; omega)))
        have gP6 : Hid (G (w5.alloc (.cells #[.int .i64 (sn : Nat), .int .i64 (sp : Nat), .slice a5 sm c5] 29)) P h T) := hG'.out.below gP5 b6
        have hB6 : Hid (Below w.heap.size w (w5.alloc (.cells #[.int .i64 (sn : Nat), .int .i64 (sp : Nat), .slice a5 sm c5] 29))) := below_via b6 hB5.out hB5.out.size
        have r6 : Hid (RowsAt (w5.alloc (.cells #[.int .i64 (sn : Nat), .int .i64 (sp : Nat), .slice a5 sm c5] 29)).heap.size (w5.alloc (.cells #[.int .i64 (sn : Nat), .int .i64 (sp : Nat), .slice a5 sm c5] 29)) a5 sm R5) := ns.rows.to b6 (Nat.le_refl _)
        have plt := hG'.out.lt gP'.out
        have nP : Hid (¬ P w5.heap.size) := fun hh => by have := plt _ hh; have := k5.size; omega
        have far1 : Hid (∀ y, a5 = some y → ¬ P y.block) := fun y hy hp => by have := (ns.far y hy).1; have := plt _ hp; omega
        have far2 : Hid (∀ i, i < sm → ∀ j, j < 3 → ∀ y, (R5 i j).ad = some y → 0 < (R5 i j).n → ¬ P y.block) := fun i hi j hj y hy h0 hp => by have := (ns.lst i hi j hj y hy h0).1; have := plt _ hp; omega
        generalize (w5.alloc (.cells #[.int .i64 (sn : Nat), .int .i64 (sp : Nat), .slice a5 sm c5] 29)) = W6 at *
        generalize w5.heap.size = bs at *
        have cE := hG'.out.done W6 P h T gP6.out fE'.out
        unfold rankV at cE
        rw [q1'.out, q2'.out, q3'.out] at cE
        clear cD gP' dis' oO' hB' g5 o5 k5 ns sy wd hx5 hB5 gP5 b6 plt gP6
        go_upto_region 18 with (go_at_call 15; (with_reducible refine cE.mono ?_); rintro e w7 ⟨Q7, a7, c7, R7, x7, d7, rfl, g7, o7, k7, ns7, sy7, _, wd7, hx7, _, _, _, _⟩)
        have hB7 : Hid (Below w.heap.size w w7) := k7.to_below hB6.out oP'.out
        have t7 := t6.out.keepO k7 nP.out
        have r7 : RowsAt w7.heap.size w7 a5 sm R5 := (r6.out.keepO k7 far1.out far2.out).mono k7.size
        have b8 : Below w7.heap.size w7 (w7.alloc (.cells #[.int .i64 (sn : Nat), .int .i64 (sp : Nat), .slice a7 sm c7] 29)) := (Below.refl _ _).alloc (Nat.le_refl _) _
        have t8 : Three (w7.alloc (.cells #[.int .i64 (sn : Nat), .int .i64 (sp : Nat), .slice a7 sm c7] 29)) w7.heap.size (.int .i64 (sn : Nat)) (.int .i64 (sp : Nat)) (.slice a7 sm c7) := by (repeat' (first | (with_reducible first | assumption | exact Three.own (by with_reducible assumption) | refine Three.set ?_ _ _ _ | refine Own3.set ?_ _ _ _ | refine Three.drew ?_ | refine Three.drewN ?_ _ | refine Own3.drew ?_ | refine Own3.drewN ?_ _ | (refine Three.new ?_; simp only [szs]; done) | (refine Own3.new ?_; simp only [szs]; done) | refine Three.alloc ?_ _ | refine Own3.alloc ?_ _ | refine Three.far ?_ ?_ _ _ | refine Own3.far ?_ ?_ _ _ | refine Three.via (by with_reducible assumption) ?_ ?_ | refine Own3.via (by with_reducible assumption) ?_ ?_) | omega | (simp only [szs]; omega)))
        have t9 : Three (w7.alloc (.cells #[.int .i64 (sn : Nat), .int .i64 (sp : Nat), .slice a7 sm c7] 29)) bs (.int .i64 (sn : Nat)) (.int .i64 (sp : Nat)) (.slice a5 sm c5) := t7.below b8 t7.lt
        have cR := vrankSameW (sn : Nat) (sp : Nat) a5 a7 sm c5 c7 (by omega) R5 R7 ns'.out.ok ns7.ok (fun i hi j hj => same_sums (sy'.out.sum i (by rw [hsm.out]; exact hi) j hj) (by rw [q4'.out]; exact sy7.sum i (by rw [q3'.out]; exact hi) j hj)) (w7.alloc (.cells #[.int .i64 (sn : Nat), .int .i64 (sp : Nat), .slice a7 sm c7] 29)) (r7.to b8 (Nat.le_refl _)) (ns7.rows.to b8 (Nat.le_refl _))
        have hB8 : Hid (Below w.heap.size w (w7.alloc (.cells #[.int .i64 (sn : Nat), .int .i64 (sp : Nat), .slice a7 sm c7] 29))) := below_via b8 hB7.out hB7.out.size
        unfold rankV at cR
        generalize (w7.alloc (.cells #[.int .i64 (sn : Nat), .int .i64 (sp : Nat), .slice a7 sm c7] 29)) = W8 at *
        generalize w7.heap.size = bt at *
        have ⟨d1, d2, d3, d4, d5, d6, d7⟩ := t9
        have ⟨f1, f2, f3, f4, f5, f6, f7⟩ := t8
        clear cE g7 o7 k7 ns7 sy7 wd7 hx7 t7 r7 b8 t8 t9 hB7 hB6 r6 t6 ns'
        go_wp2_with (go_at_call 16; (with_reducible refine cR.mono ?_); rintro e w9 ⟨rfl, b9⟩; have hend : Hid (Below w.heap.size w w9) := below_via b9 hB8.out hB8.out.size; clear b9)
        go_ret
        exact ⟨rfl, hend.out⟩
    · have hlt' : ¬ (i : Int) < (n : Int) := by omega
      obtain ⟨O, P, gO, gP, dis, oO, oP, hB⟩ := hT.out
      have fD := plays_fit D hi20
      have fE := plays_fit E hi20
      obtain ⟨q1, q2, q3, q4⟩ := hshp.out i
      generalize Mk.plays D i = S at *
      generalize Mk.plays E i = T at *
      have gP' : Hid (G wr P h T) := gP
      have dis' : Hid (∀ k, O k → ¬ P k) := dis
      have oO' : Hid (∀ k, O k → w.heap.size ≤ k) := oO
      have oP' : Hid (∀ k, P k → w.heap.size ≤ k) := oP
      have hB' : Hid (Below w.heap.size w wr) := hB
      have fE' : Hid T.fit := fE
      have hm3 := fD.2.2
      have cD := hG'.out.done wr O g S gO fD
      unfold rankV at cD
      obtain ⟨sn, hsn⟩ : ∃ sn, Hid (S.n = sn) := ⟨_, rfl⟩
      obtain ⟨sp, hsp⟩ : ∃ sp, Hid (S.pub = sp) := ⟨_, rfl⟩
      obtain ⟨sm, hsm⟩ : ∃ sm, Hid (S.m = sm) := ⟨_, rfl⟩
      have q1' : Hid (T.pub = sp) := by show _ = _; rw [← q1]; exact hsp.out
      have q2' : Hid (T.n = sn) := by show _ = _; rw [← q2]; exact hsn.out
      have q3' : Hid (T.m = sm) := by show _ = _; rw [← q3]; exact hsm.out
      have q4' : Hid (S.R = T.R) := q4
      rw [hsn.out, hsp.out, hsm.out] at cD
      rw [hsm.out] at hm3
      clear gP dis oO oP hB fE fD q1 q2 q3 q4 hT
      go_upto_region 17 with (go_at_call 15; (with_reducible refine cD.mono ?_); rintro e w5 ⟨Q, a5, c5, R5, x5, d5, rfl, g5, o5, k5, ns, sy, _, wd, hx5, _, _, _, _⟩)
      have ns' : Hid (NewSys wr.heap.size Q w5 a5 sm R5) := ns
      have sy' : Hid (SysOf S R5) := sy
      have hB5 : Hid (Below w.heap.size w w5) := k5.to_below hB'.out oO'.out
      have gP5 : G w5 P h T := hG'.out.keep gP'.out k5 (fun k hp ho => dis'.out k ho hp)
      have b6 : Below w5.heap.size w5 (w5.alloc (.cells #[.int .i64 (sn : Nat), .int .i64 (sp : Nat), .slice a5 sm c5] 29)) := (Below.refl _ _).alloc (Nat.le_refl _) _
      have t6 : Hid (Three (w5.alloc (.cells #[.int .i64 (sn : Nat), .int .i64 (sp : Nat), .slice a5 sm c5] 29)) w5.heap.size (.int .i64 (sn : Nat)) (.int .i64 (sp : Nat)) (.slice a5 sm c5)) := by show Three _ _ _ _ _; (repeat' (first | (with_reducible first | assumption | exact Three.own (by with_reducible assumption) | refine Three.set ?_ _ _ _ | refine Own3.set ?_ _ _ _ | refine Three.drew ?_ | refine Three.drewN ?_ _ | refine Own3.drew ?_ | refine Own3.drewN ?_ _ | (refine Three.new ?_; simp only [szs]; done) | (refine Own3.new ?_; simp only [szs]; done) | refine Three.alloc ?_ _ | refine Own3.alloc ?_ _ | refine Three.far ?_ ?_ _ _ | refine Own3.far ?_ ?_ _ _ | refine Three.via (by with_reducible assumption) ?_ ?_ | refine Own3.via (by with_reducible assumption) ?_ ?_) | omega | (simp only [szs]; omega)))
      have gP6 : Hid (G (w5.alloc (.cells #[.int .i64 (sn : Nat), .int .i64 (sp : Nat), .slice a5 sm c5] 29)) P h T) := hG'.out.below gP5 b6
      have hB6 : Hid (Below w.heap.size w (w5.alloc (.cells #[.int .i64 (sn : Nat), .int .i64 (sp : Nat), .slice a5 sm c5] 29))) := below_via b6 hB5.out hB5.out.size
      have r6 : Hid (RowsAt (w5.alloc (.cells #[.int .i64 (sn : Nat), .int .i64 (sp : Nat), .slice a5 sm c5] 29)).heap.size (w5.alloc (.cells #[.int .i64 (sn : Nat), .int .i64 (sp : Nat), .slice a5 sm c5] 29)) a5 sm R5) := ns.rows.to b6 (Nat.le_refl _)
      have plt := hG'.out.lt gP'.out
      have nP : Hid (¬ P w5.heap.size) := fun hh => by have := plt _ hh; have := k5.size; omega
      have far1 : Hid (∀ y, a5 = some y → ¬ P y.block) := fun y hy hp => by have := (ns.far y hy).1; have := plt _ hp; omega
      have far2 : Hid (∀ i, i < sm → ∀ j, j < 3 → ∀ y, (R5 i j).ad = some y → 0 < (R5 i j).n → ¬ P y.block) := fun i hi j hj y hy h0 hp => by have := (ns.lst i hi j hj y hy h0).1; have := plt _ hp; omega
      generalize (w5.alloc (.cells #[.int .i64 (sn : Nat), .int .i64 (sp : Nat), .slice a5 sm c5] 29)) = W6 at *
      generalize w5.heap.size = bs at *
      have cE := hG'.out.done W6 P h T gP6.out fE'.out
      unfold rankV at cE
      rw [q1'.out, q2'.out, q3'.out] at cE
      clear cD gP' dis' oO' hB' g5 o5 k5 ns sy wd hx5 hB5 gP5 b6 plt gP6
      go_upto_region 18 with (go_at_call 15; (with_reducible refine cE.mono ?_); rintro e w7 ⟨Q7, a7, c7, R7, x7, d7, rfl, g7, o7, k7, ns7, sy7, _, wd7, hx7, _, _, _, _⟩)
      have hB7 : Hid (Below w.heap.size w w7) := k7.to_below hB6.out oP'.out
      have t7 := t6.out.keepO k7 nP.out
      have r7 : RowsAt w7.heap.size w7 a5 sm R5 := (r6.out.keepO k7 far1.out far2.out).mono k7.size
      have b8 : Below w7.heap.size w7 (w7.alloc (.cells #[.int .i64 (sn : Nat), .int .i64 (sp : Nat), .slice a7 sm c7] 29)) := (Below.refl _ _).alloc (Nat.le_refl _) _
      have t8 : Three (w7.alloc (.cells #[.int .i64 (sn : Nat), .int .i64 (sp : Nat), .slice a7 sm c7] 29)) w7.heap.size (.int .i64 (sn : Nat)) (.int .i64 (sp : Nat)) (.slice a7 sm c7) := by (repeat' (first | (with_reducible first | assumption | exact Three.own (by with_reducible assumption) | refine Three.set ?_ _ _ _ | refine Own3.set ?_ _ _ _ | refine Three.drew ?_ | refine Three.drewN ?_ _ | refine Own3.drew ?_ | refine Own3.drewN ?_ _ | (refine Three.new ?_; simp only [szs]; done) | (refine Own3.new ?_; simp only [szs]; done) | refine Three.alloc ?_ _ | refine Own3.alloc ?_ _ | refine Three.far ?_ ?_ _ _ | refine Own3.far ?_ ?_ _ _ | refine Three.via (by with_reducible assumption) ?_ ?_ | refine Own3.via (by with_reducible assumption) ?_ ?_) | omega | (simp only [szs]; omega)))
      have t9 : Three (w7.alloc (.cells #[.int .i64 (sn : Nat), .int .i64 (sp : Nat), .slice a7 sm c7] 29)) bs (.int .i64 (sn : Nat)) (.int .i64 (sp : Nat)) (.slice a5 sm c5) := t7.below b8 t7.lt
      have cR := vrankSameW (sn : Nat) (sp : Nat) a5 a7 sm c5 c7 (by omega) R5 R7 ns'.out.ok ns7.ok (fun i hi j hj => same_sums (sy'.out.sum i (by rw [hsm.out]; exact hi) j hj) (by rw [q4'.out]; exact sy7.sum i (by rw [q3'.out]; exact hi) j hj)) (w7.alloc (.cells #[.int .i64 (sn : Nat), .int .i64 (sp : Nat), .slice a7 sm c7] 29)) (r7.to b8 (Nat.le_refl _)) (ns7.rows.to b8 (Nat.le_refl _))
      have hB8 : Hid (Below w.heap.size w (w7.alloc (.cells #[.int .i64 (sn : Nat), .int .i64 (sp : Nat), .slice a7 sm c7] 29))) := below_via b8 hB7.out hB7.out.size
      unfold rankV at cR
      generalize (w7.alloc (.cells #[.int .i64 (sn : Nat), .int .i64 (sp : Nat), .slice a7 sm c7] 29)) = W8 at *
      generalize w7.heap.size = bt at *
      have ⟨d1, d2, d3, d4, d5, d6, d7⟩ := t9
      have ⟨f1, f2, f3, f4, f5, f6, f7⟩ := t8
      clear cE g7 o7 k7 ns7 sy7 wd7 hx7 t7 r7 b8 t8 t9 hB7 hB6 r6 t6 ns'
      go_wp2_with (go_at_call 16; (with_reducible refine cR.mono ?_); rintro e w9 ⟨rfl, b9⟩; have hend : Hid (Below w.heap.size w w9) := below_via b9 hB8.out hB8.out.size; clear b9)
      go_ret
      exact ⟨rfl, hend.out⟩
end Go.Proofs.Ytdbolfmmlmoiaaa

namespace Go.Proofs.Ytdbolfmmlmoiaaa
open Go.RowKit Go.Proofs
set_option linter.unusedVariables false
set_option linter.unusedSimpArgs false
attribute [local go_sem ↓] Go.wp_at_zero Go.wp_at_succ
/-- A maker of memory that wasn't there in w0. -/
def OneM (G : Mkr) (w0 w : World) (g : Nat) (S : Mk) : Prop := ∃ O : Nat → Prop, G w O g S ∧ (∀ k, O k → w0.heap.size ≤ k) ∧ Below w0.heap.size w0 w
theorem OneM.below {G : Mkr} (hG : GadC G) {w0 w w' : World} {g : Nat} {S : Mk} (t : OneM G w0 w g S) (hb : Below w.heap.size w w') : OneM G w0 w' g S := by
  obtain ⟨O, h1, h2, h3⟩ := t
  exact ⟨O, hG.below h1 hb, h2, below_via hb h3 h3.size⟩
/-- A maker, and a deed in a variable. -/
structure InM (G : Mkr) (w0 w : World) (O : Nat → Prop) (g bd : Nat) (S : Mk) (d : Dd) : Prop where
  g : G w O g S
  o : ∀ k, O k → w0.heap.size ≤ k
  n : ¬ O bd
  b : Below w0.heap.size w0 w
  x : DdB w bd d
theorem InM.one {G : Mkr} {w0 w : World} {O : Nat → Prop} {g bd : Nat} {S : Mk} {d : Dd} (h : InM G w0 w O g bd S d) : OneM G w0 w g S := ⟨O, h.g, h.o, h.b⟩
theorem InM.step {G : Mkr} (hG : GadC G) {w0 w w' : World} {O O' : Nat → Prop} {g bd : Nat} {S S' : Mk} {d : Dd} (h : InM G w0 w O g bd S d) (h1 : G w' O' g S') (h2 : ∀ k, O' k → O k ∨ w.heap.size ≤ k) (h3 : KeepO O w w') : InM G w0 w' O' g bd S' d := by
  have z := h.b.size
  have l := h.x.lt
  refine ⟨h1, fun k hk => ?_, fun hk => ?_, h3.to_below h.b h.o, h.x.keepO h3 h.n⟩
  · rcases h2 k hk with h4 | h4
    · exact h.o k h4
    · omega
  · rcases h2 bd hk with h4 | h4
    · exact h.n h4
    · omega
theorem InM.drew {G : Mkr} (hG : GadC G) {w0 w : World} {O : Nat → Prop} {g bd : Nat} {S : Mk} {d : Dd} (h : InM G w0 w O g bd S d) : InM G w0 w.drew O g bd S d :=
  h.step hG (hG.below h.g (Below.refl _ _).drew) (fun k hk => Or.inl hk) (KeepO.of_below (Below.refl _ _).drew)
theorem InM.drewN {G : Mkr} (hG : GadC G) {w0 w : World} {O : Nat → Prop} {g bd : Nat} {S : Mk} {d : Dd} (h : InM G w0 w O g bd S d) (n : Nat) : InM G w0 (w.drewN n) O g bd S d := by
  have hb : Below w.heap.size w (w.drewN n) := ⟨rfl, rfl, rfl, Nat.le_refl _, fun _ _ => rfl⟩
  exact h.step hG (hG.below h.g hb) (fun k hk => Or.inl hk) (KeepO.of_below hb)
theorem askedN_no {D : Nat → Dd} {i : Nat} (h : (D i).small = false) : askedN D (i + 1) ↔ askedN D i := ⟨fun k => k.1, fun k => ⟨k, fun e => by rw [h] at e; cases e⟩⟩
theorem askedN_yes {D : Nat → Dd} {i : Nat} (h : (D i).small = true) : askedN D (i + 1) ↔ (askedN D i ∧ (Mk.plays D i).asks (D i)) := ⟨fun k => ⟨k.1, k.2 h⟩, fun k => ⟨k.1, fun _ => k.2⟩⟩
theorem asks_other {S : Mk} {d : Dd} {p : Nat} (hp : pickN d.what 9 = p) (h6 : p ≠ 6) (h4 : p ≠ 4) : S.asks d := ⟨fun h => absurd (hp.symm.trans h) h6, fun h => absurd (hp.symm.trans h) h4⟩
theorem asks_6 {S : Mk} {d : Dd} (hp : pickN d.what 9 = 6) : S.asks d ↔ S.v (S.is d.a) = S.v (S.is d.b) := ⟨fun h => h.1 hp, fun h => ⟨fun _ => h, fun h4 => absurd (hp.symm.trans h4) (by decide)⟩⟩
theorem asks_4 {S : Mk} {d : Dd} (hp : pickN d.what 9 = 4) : S.asks d ↔ S.v (S.is d.a) / 2 ^ bitsOf d.n = 0 := ⟨fun h => h.2 hp, fun h => ⟨fun h6 => absurd (hp.symm.trans h6) (by decide), fun _ => h⟩⟩
theorem shr_cast (va q : Nat) : ((va / 2 ^ q : Nat) : Int) = (va : Int) / 2 ^ q := by simp [Int.natCast_ediv]
theorem shr_zero {va q : Nat} (h : va / 2 ^ q = 0) : ((va : Int) / 2 ^ q == 0) = true := by
  rw [← shr_cast, h]
  rfl
theorem shr_ne {va q : Nat} (h : ¬ va / 2 ^ q = 0) : ((va : Int) / 2 ^ q == 0) = false := by
  rw [← shr_cast, beq_eq_false_iff_ne]
  omega
theorem shr_at0 {va q : Nat} {b : Bool} (h : ((va : Int) / 2 ^ q == 0) = b) (h0 : q = 0) : ((va : Int) == 0) = b := by
  subst h0
  simpa using h
/-- Whether all that was asked for by the first i deeds is so. -/
def WantIs (D : Nat → Dd) (i : Nat) (want : Bool) : Prop := want = true ↔ askedN D i
theorem WantIs.zero (D : Nat → Dd) : WantIs D 0 true := ⟨fun _ => trivial, fun _ => rfl⟩
theorem WantIs.no {D : Nat → Dd} {i : Nat} {want : Bool} (h : WantIs D i want) (hs : (D i).small = false) : WantIs D (i + 1) want := Iff.trans h (askedN_no hs).symm
theorem WantIs.yes {D : Nat → Dd} {i : Nat} {want : Bool} (h : WantIs D i want) (hs : (D i).small = true) (ha : (Mk.plays D i).asks (D i)) : WantIs D (i + 1) want := by
  unfold WantIs at *
  rw [askedN_yes hs, h]
  exact ⟨fun k => ⟨k, ha⟩, fun k => k.1⟩
theorem WantIs.not {D : Nat → Dd} {i : Nat} {want : Bool} (hs : (D i).small = true) (ha : ¬ (Mk.plays D i).asks (D i)) : WantIs D (i + 1) false := by
  unfold WantIs at *
  rw [askedN_yes hs]
  exact ⟨fun k => (by cases k), fun k => absurd k.2 ha⟩
theorem WantIs.never {D : Nat → Dd} {i : Nat} (h : WantIs D i false) (hs : (D i).small = true) : WantIs D (i + 1) false := by
  unfold WantIs at *
  rw [askedN_yes hs]
  exact ⟨fun k => (by cases k), fun k => h.2 k.1⟩
set_option maxRecDepth 8000 in
set_option maxHeartbeats 32000000 in
theorem gholds_of {G : Mkr} (hG : GadC G) (hH : HoldsC 19) (ad : Option Addr) (n c : Nat) (D : Nat → Dd) (hn : n ≤ 9223372036854775807) (w : World) (hD : DdsAt w.heap.size w ad n D)
   (cu : ∀ w, Calls Try.prog 9 #[] w fun e w' => e = .returned (.bool true) ∧ Below w.heap.size w w') :
    Calls Try.prog 5 #[.slice ad n c] w fun e w' => e = .returned (.bool true) ∧ Below w.heap.size w w' := by
  have hG' : Hid (GadC G) := hG
  have hH' : Hid (HoldsC 19) := hH
  have hD' : Hid (DdsAt w.heap.size w ad n D) := hD
  have cN := hG.new
  clear hG hD hH
  go_enter Try.func5, Try.ntmps5
  go_upto_region 5 with (first | (go_at_call 9; (with_reducible refine (cu _).mono ?_); rintro e wu ⟨rfl, bu⟩) | (go_at_call 10; (with_reducible refine (cN _).mono ?_); rintro e w1 ⟨g, O, rfl, g0, o0, b1⟩))
  have zu := bu.size
  have hT0 : Hid (OneM G w w1 g Mk.new) := ⟨O, g0, fun k hk => by have := o0 k hk; omega, below_via b1 bu zu⟩
  clear cN cu g0 o0 b1 bu zu
  go_wp2
  go_loopw [5, 6] (fun sw si wr => ∃ (i : Nat) (want : Bool), i ≤ n ∧ i ≤ 20 ∧ sw = .bool want ∧ si = .int .i64 i ∧ Hid (OneM G w wr g (Mk.plays D i)) ∧ Hid (WantIs D i want)) (fun _ si _ => n - (intOf si).toNat)
  case atStart => exact ⟨0, true, by omega, by omega, rfl, rfl, hT0, WantIs.zero D⟩
  case round =>
    clear hT0
    obtain ⟨i, want, hi, hi20, rfl, rfl, hT, hW⟩ := hrel
    by_cases hlt : i < n
    · have hlt' : (i : Int) < (n : Int) := by omega
      by_cases hl20 : i < 20
      · have hl20' : (i : Int) < 20 := by omega
        rcases hD'.out with hz | ⟨b, off, rfl, dd⟩
        · omega
        have ddi : Hid ((D i).At w.heap.size w) := dd.at_ i hlt
        have dd' : Hid (DdsIn w.heap.size w b off n D) := dd
        have hBw : Hid (Below w.heap.size w wr) := by obtain ⟨_, _, _, h6⟩ := hT.out; exact h6
        have ⟨d0, d1, d2, d3, d4, d5, d6⟩ := dd.parts hBw.out hlt
        have cs := msmallW (D i)
        unfold Dd.val Lst.val at cs
        clear dd
        cases hsm : (D i).small with
        | false =>
          rw [hsm] at cs
          have hT2 : Hid (∀ w1, Below wr.heap.size wr w1 → OneM G w w1 g (Mk.plays D (i + 1))) := fun w1 hb => by
            rw [plays_no hsm]
            exact OneM.below hG'.out hT.out hb
          have hW2 : Hid (WantIs D (i + 1) want) := hW.out.no hsm
          go_wp2_with (go_at_call 11; (with_reducible refine (cs _).mono ?_); rintro e w1 ⟨rfl, b1⟩)
          have hT3 : Hid (OneM G w w1 g (Mk.plays D (i + 1))) := hT2.out w1 b1
          clear d0 d1 d2 d3 d4 d5 d6 hT2 b1
          go_roundw
          case rel => exact ⟨i + 1, want, by omega, by omega, by first | rfl | trivial, by go_num, hT3, hW2⟩
          case measure => (simp [intOf]; omega)
        | true =>
          rw [hsm] at cs
          obtain ⟨O, gO, oO, hB⟩ := hT.out
          have gO' : Hid (G wr O g (Mk.plays D i)) := gO
          have hoO : Hid (∀ k, O k → w.heap.size ≤ k) := oO
          clear gO oO hB hT
          go_upto_region 11 with (go_at_call 11; (with_reducible refine (cs _).mono ?_); rintro e w1 ⟨rfl, b1⟩)
          have hB1 : Hid (Below w.heap.size w w1) := below_via b1 hBw.out hBw.out.size
          have b1' : Hid (Below wr.heap.size wr w1) := b1
          have zr := b1.size
          clear d0 d1 d2 d3 d4 d5 d6 cs b1
          have ⟨d0, d1, d2, d3, d4, d5, d6⟩ := dd'.out.parts hB1.out hlt
          go_upto_region 12 with (fail)
          have hbx : Hid (DdB (w1.alloc (.cells #[.int .i64 (D i).what, .int .i64 (D i).a, .int .i64 (D i).b, .int .i64 (D i).n, .int .u64 ((D i).k : Nat), .slice (D i).L.ad (D i).L.n (D i).L.c, .slice (D i).ad (D i).m (D i).c] 38)) w1.heap.size (D i)) := DdB.new w1 (D i) _
          have b2 : Hid (Below wr.heap.size wr (w1.alloc (.cells #[.int .i64 (D i).what, .int .i64 (D i).a, .int .i64 (D i).b, .int .i64 (D i).n, .int .u64 ((D i).k : Nat), .slice (D i).L.ad (D i).L.n (D i).L.c, .slice (D i).ad (D i).m (D i).c] 38))) := b1'.out.alloc zr _
          have hB2 : Hid (Below w.heap.size w (w1.alloc (.cells #[.int .i64 (D i).what, .int .i64 (D i).a, .int .i64 (D i).b, .int .i64 (D i).n, .int .u64 ((D i).k : Nat), .slice (D i).L.ad (D i).L.n (D i).L.c, .slice (D i).ad (D i).m (D i).c] 38))) := hB1.out.alloc hB1.out.size _
          have z2 : w1.heap.size < (w1.alloc (.cells #[.int .i64 (D i).what, .int .i64 (D i).a, .int .i64 (D i).b, .int .i64 (D i).n, .int .u64 ((D i).k : Nat), .slice (D i).L.ad (D i).L.n (D i).L.c, .slice (D i).ad (D i).m (D i).c] 38)).heap.size := hbx.out.lt
          have e := hbx.out.cells
          generalize (w1.alloc (.cells #[.int .i64 (D i).what, .int .i64 (D i).a, .int .i64 (D i).b, .int .i64 (D i).n, .int .u64 ((D i).k : Nat), .slice (D i).L.ad (D i).L.n (D i).L.c, .slice (D i).ad (D i).m (D i).c] 38)) = W2 at *
          generalize w1.heap.size = bd at *
          have ⟨e0, e1, e2, e3, e4, e5, e6⟩ := e
          clear d0 d1 d2 d3 d4 d5 d6 e hB1 b1'
          have hI : Hid (InM G w W2 O g bd (Mk.plays D i) (D i)) := ⟨hG'.out.below gO'.out b2.out, hoO.out, fun hh => by have := hG'.out.lt gO'.out bd hh; omega, hB2.out, hbx.out⟩
          have fit := plays_fit D hi20
          have cV : Hid (∀ (v : Int), -9223372036854775808 ≤ v ∧ v < 9223372036854775808 → ∀ W O, G W O g (Mk.plays D i) → Calls Try.prog 13 #[.pointer (some ⟨g, 0, none⟩), .int .i64 v] W fun e w' => e = .returned (.int .u64 ((Mk.plays D i).v ((Mk.plays D i).is v) : Nat)) ∧ GAfter G O W w' g (Mk.plays D i)) := fun v hv W O h => hG'.out.value W O g _ h fit v hv.1 hv.2
          have hlow : Hid (∀ j, (Mk.plays D i).v j < 288230376287764481) := fit.1.lt
          have cP := fun W => mpickW (D i).what ddi.out.what.1 ddi.out.what.2 W
          obtain ⟨p, hp⟩ : ∃ p, pickN (D i).what 9 = p := ⟨_, rfl⟩
          rw [hp] at cP
          have hpick : Hid (pickN (D i).what 9 = p) := hp
          clear gO' hoO b2 hB2 hbx fit hp
          by_cases h6 : p = 6
          · subst h6
            rw [(show (((6 : Nat) : Int)) = 6 from rfl)] at cP
            have cA := cV.out (D i).a ddi.out.a
            have cB := cV.out (D i).b ddi.out.b
            have hq : Hid ((Mk.plays D i).asks (D i) ↔ (Mk.plays D i).v ((Mk.plays D i).is (D i).a) = (Mk.plays D i).v ((Mk.plays D i).is (D i).b)) := asks_6 hpick.out
            generalize (Mk.plays D i).v ((Mk.plays D i).is (D i).a) = va at *
            generalize (Mk.plays D i).v ((Mk.plays D i).is (D i).b) = vb at *
            go_upto_region 14 with (go_at_call 18; (with_reducible refine (cP _).mono ?_); rintro e w0 ⟨rfl, rfl⟩)
            cases want with
            | true =>
              have ID : Hid (InM G w W2.drew O g bd (Mk.plays D i) (D i)) := hI.out.drew hG'.out
              by_cases hab : va = vb
              · have hqa : Hid ((Mk.plays D i).asks (D i)) := hq.out.2 hab
                subst hab
                go_region_held3 (fun w' : World => w'.cell? ⟨bd, 1, none⟩ = some (.int .i64 (D i).a) ∧ w'.cell? ⟨bd, 2, none⟩ = some (.int .i64 (D i).b)) (go_keep)
                  ((go_at_call 13; first | ((with_reducible refine (cA _ _ ID.out.g).mono ?_); rintro e w3 ⟨rfl, O3, g3, o3, k3⟩; have I3 : Hid (InM G w w3 O3 g bd (Mk.plays D i) (D i)) := ID.out.step hG'.out g3 o3 k3; have x1 := I3.out.x.c1; have x2 := I3.out.x.c2) | ((with_reducible refine (cB _ _ I3.out.g).mono ?_); rintro e w4 ⟨rfl, O4, g4, o4, k4⟩; have I4 : Hid (InM G w w4 O4 g bd (Mk.plays D i) (D i)) := I3.out.step hG'.out g4 o4 k4; have y1 := I4.out.x.c1; have y2 := I4.out.x.c2)))
                clear e0 e1 e2 e3 e4 e5 e6 x1 x2 y1 y2 cA cB cP g3 o3 k3 g4 o4 k4 I3 ID hI
                have hI4 : Hid (InM G w w4 O4 g bd (Mk.plays D i) (D i)) := I4.out
                have hw4 : Hid (WantIs D (i + 1) true) := hW.out.yes hsm hqa.out
                have cc : Calls Try.prog 17 #[.pointer (some ⟨g, 0, none⟩), .agg #[.int .i64 (D i).what, .int .i64 (D i).a, .int .i64 (D i).b, .int .i64 (D i).n, .int .u64 ((D i).k : Nat), .slice (D i).L.ad (D i).L.n (D i).L.c, .slice (D i).ad (D i).m (D i).c]] w4 fun e w' => e = .returned (.tuple #[]) ∧ GAfter G O4 w4 w' g (Mk.plays D (i + 1)) := by
                  rw [plays_yes hsm]
                  exact mcallW hG'.out O4 g (Mk.plays D i) (plays_fit D (by omega)) (D i) (small_le hsm) w4 hI4.out.g (ddi.out.to hI4.out.b (Nat.le_refl _)) (ddi.out.apt hI4.out.o)
                have e := hI4.out.x.cells
                have ⟨e0, e1, e2, e3, e4, e5, e6⟩ := e
                clear e
                go_upto_region 20 with (fail)
                go_wp2_with (go_at_call 17; (with_reducible refine cc.mono ?_); rintro e w9 ⟨rfl, O9, g9, o9, k9⟩)
                have hI9 : Hid (OneM G w w9 g (Mk.plays D (i + 1))) := (hI4.out.step hG'.out g9 o9 k9).one
                clear e0 e1 e2 e3 e4 e5 e6 cc g9 o9 k9 hI4
                go_roundw
                case rel => exact ⟨i + 1, true, by omega, by omega, by first | rfl | trivial, by go_num, hI9, hw4⟩
                case measure => (simp [intOf]; omega)
              · have hqa : Hid (¬ (Mk.plays D i).asks (D i)) := fun h => hab (hq.out.1 h)
                have hab' : ((va : Int) == (vb : Int)) = false := by rw [beq_eq_false_iff_ne]; omega
                go_region_held3 (fun w' : World => w'.cell? ⟨bd, 1, none⟩ = some (.int .i64 (D i).a) ∧ w'.cell? ⟨bd, 2, none⟩ = some (.int .i64 (D i).b)) (go_keep)
                  ((go_at_call 13; first | ((with_reducible refine (cA _ _ ID.out.g).mono ?_); rintro e w3 ⟨rfl, O3, g3, o3, k3⟩; have I3 : Hid (InM G w w3 O3 g bd (Mk.plays D i) (D i)) := ID.out.step hG'.out g3 o3 k3; have x1 := I3.out.x.c1; have x2 := I3.out.x.c2) | ((with_reducible refine (cB _ _ I3.out.g).mono ?_); rintro e w4 ⟨rfl, O4, g4, o4, k4⟩; have I4 : Hid (InM G w w4 O4 g bd (Mk.plays D i) (D i)) := I3.out.step hG'.out g4 o4 k4; have y1 := I4.out.x.c1; have y2 := I4.out.x.c2)))
                clear e0 e1 e2 e3 e4 e5 e6 x1 x2 y1 y2 cA cB cP g3 o3 k3 g4 o4 k4 I3 ID hI
                have hI4 : Hid (InM G w w4 O4 g bd (Mk.plays D i) (D i)) := I4.out
                have hw4 : Hid (WantIs D (i + 1) false) := WantIs.not (want := true) hsm hqa.out
                have cc : Calls Try.prog 17 #[.pointer (some ⟨g, 0, none⟩), .agg #[.int .i64 (D i).what, .int .i64 (D i).a, .int .i64 (D i).b, .int .i64 (D i).n, .int .u64 ((D i).k : Nat), .slice (D i).L.ad (D i).L.n (D i).L.c, .slice (D i).ad (D i).m (D i).c]] w4 fun e w' => e = .returned (.tuple #[]) ∧ GAfter G O4 w4 w' g (Mk.plays D (i + 1)) := by
                  rw [plays_yes hsm]
                  exact mcallW hG'.out O4 g (Mk.plays D i) (plays_fit D (by omega)) (D i) (small_le hsm) w4 hI4.out.g (ddi.out.to hI4.out.b (Nat.le_refl _)) (ddi.out.apt hI4.out.o)
                have e := hI4.out.x.cells
                have ⟨e0, e1, e2, e3, e4, e5, e6⟩ := e
                clear e
                go_upto_region 20 with (fail)
                go_wp2_with (go_at_call 17; (with_reducible refine cc.mono ?_); rintro e w9 ⟨rfl, O9, g9, o9, k9⟩)
                have hI9 : Hid (OneM G w w9 g (Mk.plays D (i + 1))) := (hI4.out.step hG'.out g9 o9 k9).one
                clear e0 e1 e2 e3 e4 e5 e6 cc g9 o9 k9 hI4
                go_roundw
                case rel => exact ⟨i + 1, false, by omega, by omega, by first | rfl | trivial, by go_num, hI9, hw4⟩
                case measure => (simp [intOf]; omega)
            | false =>
              go_quiet (fail)
              have ID : Hid (InM G w (W2.drewN nq) O g bd (Mk.plays D i) (D i)) := hI.out.drewN hG'.out nq
              clear e0 e1 e2 e3 e4 e5 e6 cA cB cP hI
              have hI4 : Hid (InM G w (W2.drewN nq) O g bd (Mk.plays D i) (D i)) := ID.out
              have hw4 : Hid (WantIs D (i + 1) false) := WantIs.never hW.out hsm
              have cc : Calls Try.prog 17 #[.pointer (some ⟨g, 0, none⟩), .agg #[.int .i64 (D i).what, .int .i64 (D i).a, .int .i64 (D i).b, .int .i64 (D i).n, .int .u64 ((D i).k : Nat), .slice (D i).L.ad (D i).L.n (D i).L.c, .slice (D i).ad (D i).m (D i).c]] (W2.drewN nq) fun e w' => e = .returned (.tuple #[]) ∧ GAfter G O (W2.drewN nq) w' g (Mk.plays D (i + 1)) := by
                rw [plays_yes hsm]
                exact mcallW hG'.out O g (Mk.plays D i) (plays_fit D (by omega)) (D i) (small_le hsm) (W2.drewN nq) hI4.out.g (ddi.out.to hI4.out.b (Nat.le_refl _)) (ddi.out.apt hI4.out.o)
              have e := hI4.out.x.cells
              have ⟨e0, e1, e2, e3, e4, e5, e6⟩ := e
              clear e
              go_upto_region 20 with (fail)
              go_wp2_with (go_at_call 17; (with_reducible refine cc.mono ?_); rintro e w9 ⟨rfl, O9, g9, o9, k9⟩)
              have hI9 : Hid (OneM G w w9 g (Mk.plays D (i + 1))) := (hI4.out.step hG'.out g9 o9 k9).one
              clear e0 e1 e2 e3 e4 e5 e6 cc g9 o9 k9 hI4
              go_roundw
              case rel => exact ⟨i + 1, false, by omega, by omega, by first | rfl | trivial, by go_num, hI9, hw4⟩
              case measure => (simp [intOf]; omega)
          · have h6' : ((p : Int) == 6) = false := by rw [beq_eq_false_iff_ne]; omega
            by_cases h4 : p = 4
            · subst h4
              rw [(show (((4 : Nat) : Int)) = 4 from rfl)] at cP
              have cA := cV.out (D i).a ddi.out.a
              have hq : Hid ((Mk.plays D i).asks (D i) ↔ (Mk.plays D i).v ((Mk.plays D i).is (D i).a) / 2 ^ bitsOf (D i).n = 0) := asks_4 hpick.out
              have hvlow := hlow.out ((Mk.plays D i).is (D i).a)
              generalize (Mk.plays D i).v ((Mk.plays D i).is (D i).a) = va at *
              obtain ⟨q, hqb⟩ : ∃ q, Hid (bitsOf (D i).n = q) := ⟨_, rfl⟩
              rw [hqb.out] at hq
              have hq58 : q ≤ 58 := by rw [← hqb.out]; exact bitsOf_le _
              cases want with
              | true =>
                by_cases hn0 : 0 ≤ (D i).n
                · have hn0' : ¬ (D i).n < 0 := by omega
                  by_cases hn58 : (D i).n ≤ 58
                  · have hn58' : ¬ (58 : Int) < (D i).n := by omega
                    have hqn : (D i).n = (q : Int) := by have := hqb.out; unfold bitsOf at this; rw [if_pos ⟨hn0, hn58⟩] at this; omega
                    by_cases hz : va / 2 ^ q = 0
                    · have hqa : Hid ((Mk.plays D i).asks (D i)) := hq.out.2 hz
                      have hz1 := shr_zero hz
                      skip
                      go_upto_region 20 with (first | (go_at_call 18; (with_reducible refine (cP _).mono ?_); rintro e w0 ⟨rfl, rfl⟩) | (go_at_call 13; (with_reducible refine (cA _ _ hI.out.g).mono ?_); rintro e w3 ⟨rfl, O3, g3, o3, k3⟩))
                      have I3 : Hid (InM G w w3 O3 g bd (Mk.plays D i) (D i)) := hI.out.step hG'.out g3 o3 k3
                      clear cA cP g3 o3 k3 hI e0 e1 e2 e3 e4 e5 e6
                      have hI4 : Hid (InM G w w3 O3 g bd (Mk.plays D i) (D i)) := I3.out
                      have hw4 : Hid (WantIs D (i + 1) true) := hW.out.yes hsm hqa.out
                      have cc : Calls Try.prog 17 #[.pointer (some ⟨g, 0, none⟩), .agg #[.int .i64 (D i).what, .int .i64 (D i).a, .int .i64 (D i).b, .int .i64 (q : Nat), .int .u64 ((D i).k : Nat), .slice (D i).L.ad (D i).L.n (D i).L.c, .slice (D i).ad (D i).m (D i).c]] w3 fun e w' => e = .returned (.tuple #[]) ∧ GAfter G O3 w3 w' g (Mk.plays D (i + 1)) := by
                        rw [plays_yes hsm]
                        rw [show (.agg #[.int .i64 (D i).what, .int .i64 (D i).a, .int .i64 (D i).b, .int .i64 (q : Nat), .int .u64 ((D i).k : Nat), .slice (D i).L.ad (D i).L.n (D i).L.c, .slice (D i).ad (D i).m (D i).c] : Value) = (D i).val from by rw [Dd.val_parts, hqn]]
                        exact mcallW hG'.out O3 g (Mk.plays D i) (plays_fit D (by omega)) (D i) (small_le hsm) w3 hI4.out.g (ddi.out.to hI4.out.b (Nat.le_refl _)) (ddi.out.apt hI4.out.o)
                      have e := hI4.out.x.cells
                      have ⟨e0, e1, e2, e3, e4, e5, e6⟩ := e
                      clear e
                      go_upto_region 20 with (fail)
                      go_wp2_with (go_at_call 17; (with_reducible refine cc.mono ?_); rintro e w9 ⟨rfl, O9, g9, o9, k9⟩)
                      have hI9 : Hid (OneM G w w9 g (Mk.plays D (i + 1))) := (hI4.out.step hG'.out g9 o9 k9).one
                      clear e0 e1 e2 e3 e4 e5 e6 cc g9 o9 k9 hI4
                      go_roundw
                      case rel => exact ⟨i + 1, true, by omega, by omega, by first | rfl | trivial, by go_num, hI9, hw4⟩
                      case measure => (simp [intOf]; omega)
                    · have hqa : Hid (¬ (Mk.plays D i).asks (D i)) := fun h => hz (hq.out.1 h)
                      have hz1 := shr_ne hz
                      skip
                      go_upto_region 20 with (first | (go_at_call 18; (with_reducible refine (cP _).mono ?_); rintro e w0 ⟨rfl, rfl⟩) | (go_at_call 13; (with_reducible refine (cA _ _ hI.out.g).mono ?_); rintro e w3 ⟨rfl, O3, g3, o3, k3⟩))
                      have I3 : Hid (InM G w w3 O3 g bd (Mk.plays D i) (D i)) := hI.out.step hG'.out g3 o3 k3
                      clear cA cP g3 o3 k3 hI e0 e1 e2 e3 e4 e5 e6
                      have hI4 : Hid (InM G w w3 O3 g bd (Mk.plays D i) (D i)) := I3.out
                      have hw4 : Hid (WantIs D (i + 1) false) := WantIs.not (want := true) hsm hqa.out
                      have cc : Calls Try.prog 17 #[.pointer (some ⟨g, 0, none⟩), .agg #[.int .i64 (D i).what, .int .i64 (D i).a, .int .i64 (D i).b, .int .i64 (q : Nat), .int .u64 ((D i).k : Nat), .slice (D i).L.ad (D i).L.n (D i).L.c, .slice (D i).ad (D i).m (D i).c]] w3 fun e w' => e = .returned (.tuple #[]) ∧ GAfter G O3 w3 w' g (Mk.plays D (i + 1)) := by
                        rw [plays_yes hsm]
                        rw [show (.agg #[.int .i64 (D i).what, .int .i64 (D i).a, .int .i64 (D i).b, .int .i64 (q : Nat), .int .u64 ((D i).k : Nat), .slice (D i).L.ad (D i).L.n (D i).L.c, .slice (D i).ad (D i).m (D i).c] : Value) = (D i).val from by rw [Dd.val_parts, hqn]]
                        exact mcallW hG'.out O3 g (Mk.plays D i) (plays_fit D (by omega)) (D i) (small_le hsm) w3 hI4.out.g (ddi.out.to hI4.out.b (Nat.le_refl _)) (ddi.out.apt hI4.out.o)
                      have e := hI4.out.x.cells
                      have ⟨e0, e1, e2, e3, e4, e5, e6⟩ := e
                      clear e
                      go_upto_region 20 with (fail)
                      go_wp2_with (go_at_call 17; (with_reducible refine cc.mono ?_); rintro e w9 ⟨rfl, O9, g9, o9, k9⟩)
                      have hI9 : Hid (OneM G w w9 g (Mk.plays D (i + 1))) := (hI4.out.step hG'.out g9 o9 k9).one
                      clear e0 e1 e2 e3 e4 e5 e6 cc g9 o9 k9 hI4
                      go_roundw
                      case rel => exact ⟨i + 1, false, by omega, by omega, by first | rfl | trivial, by go_num, hI9, hw4⟩
                      case measure => (simp [intOf]; omega)
                  · have hn58' : (58 : Int) < (D i).n := by omega
                    have hq0 : q = 0 := by have := hqb.out; unfold bitsOf at this; rw [if_neg (fun h => hn58 h.2)] at this; omega
                    by_cases hz : va / 2 ^ q = 0
                    · have hqa : Hid ((Mk.plays D i).asks (D i)) := hq.out.2 hz
                      have hz1 := shr_zero hz
                      have hz2 := shr_at0 hz1 hq0
                      go_upto_region 20 with (first | (go_at_call 18; (with_reducible refine (cP _).mono ?_); rintro e w0 ⟨rfl, rfl⟩) | (go_at_call 13; (with_reducible refine (cA _ _ hI.out.g).mono ?_); rintro e w3 ⟨rfl, O3, g3, o3, k3⟩))
                      have I3 : Hid (InM G w w3 O3 g bd (Mk.plays D i) (D i)) := hI.out.step hG'.out g3 o3 k3
                      clear cA cP g3 o3 k3 hI e0 e1 e2 e3 e4 e5 e6
                      have hI4 : Hid (InM G w w3 O3 g bd (Mk.plays D i) (D i)) := I3.out
                      have hw4 : Hid (WantIs D (i + 1) true) := hW.out.yes hsm hqa.out
                      have cc : Calls Try.prog 17 #[.pointer (some ⟨g, 0, none⟩), .agg #[.int .i64 (D i).what, .int .i64 (D i).a, .int .i64 (D i).b, .int .i64 (D i).n, .int .u64 ((D i).k : Nat), .slice (D i).L.ad (D i).L.n (D i).L.c, .slice (D i).ad (D i).m (D i).c]] w3 fun e w' => e = .returned (.tuple #[]) ∧ GAfter G O3 w3 w' g (Mk.plays D (i + 1)) := by
                        rw [plays_yes hsm]
                        exact mcallW hG'.out O3 g (Mk.plays D i) (plays_fit D (by omega)) (D i) (small_le hsm) w3 hI4.out.g (ddi.out.to hI4.out.b (Nat.le_refl _)) (ddi.out.apt hI4.out.o)
                      have e := hI4.out.x.cells
                      have ⟨e0, e1, e2, e3, e4, e5, e6⟩ := e
                      clear e
                      go_upto_region 20 with (fail)
                      go_wp2_with (go_at_call 17; (with_reducible refine cc.mono ?_); rintro e w9 ⟨rfl, O9, g9, o9, k9⟩)
                      have hI9 : Hid (OneM G w w9 g (Mk.plays D (i + 1))) := (hI4.out.step hG'.out g9 o9 k9).one
                      clear e0 e1 e2 e3 e4 e5 e6 cc g9 o9 k9 hI4
                      go_roundw
                      case rel => exact ⟨i + 1, true, by omega, by omega, by first | rfl | trivial, by go_num, hI9, hw4⟩
                      case measure => (simp [intOf]; omega)
                    · have hqa : Hid (¬ (Mk.plays D i).asks (D i)) := fun h => hz (hq.out.1 h)
                      have hz1 := shr_ne hz
                      have hz2 := shr_at0 hz1 hq0
                      go_upto_region 20 with (first | (go_at_call 18; (with_reducible refine (cP _).mono ?_); rintro e w0 ⟨rfl, rfl⟩) | (go_at_call 13; (with_reducible refine (cA _ _ hI.out.g).mono ?_); rintro e w3 ⟨rfl, O3, g3, o3, k3⟩))
                      have I3 : Hid (InM G w w3 O3 g bd (Mk.plays D i) (D i)) := hI.out.step hG'.out g3 o3 k3
                      clear cA cP g3 o3 k3 hI e0 e1 e2 e3 e4 e5 e6
                      have hI4 : Hid (InM G w w3 O3 g bd (Mk.plays D i) (D i)) := I3.out
                      have hw4 : Hid (WantIs D (i + 1) false) := WantIs.not (want := true) hsm hqa.out
                      have cc : Calls Try.prog 17 #[.pointer (some ⟨g, 0, none⟩), .agg #[.int .i64 (D i).what, .int .i64 (D i).a, .int .i64 (D i).b, .int .i64 (D i).n, .int .u64 ((D i).k : Nat), .slice (D i).L.ad (D i).L.n (D i).L.c, .slice (D i).ad (D i).m (D i).c]] w3 fun e w' => e = .returned (.tuple #[]) ∧ GAfter G O3 w3 w' g (Mk.plays D (i + 1)) := by
                        rw [plays_yes hsm]
                        exact mcallW hG'.out O3 g (Mk.plays D i) (plays_fit D (by omega)) (D i) (small_le hsm) w3 hI4.out.g (ddi.out.to hI4.out.b (Nat.le_refl _)) (ddi.out.apt hI4.out.o)
                      have e := hI4.out.x.cells
                      have ⟨e0, e1, e2, e3, e4, e5, e6⟩ := e
                      clear e
                      go_upto_region 20 with (fail)
                      go_wp2_with (go_at_call 17; (with_reducible refine cc.mono ?_); rintro e w9 ⟨rfl, O9, g9, o9, k9⟩)
                      have hI9 : Hid (OneM G w w9 g (Mk.plays D (i + 1))) := (hI4.out.step hG'.out g9 o9 k9).one
                      clear e0 e1 e2 e3 e4 e5 e6 cc g9 o9 k9 hI4
                      go_roundw
                      case rel => exact ⟨i + 1, false, by omega, by omega, by first | rfl | trivial, by go_num, hI9, hw4⟩
                      case measure => (simp [intOf]; omega)
                · have hn0' : (D i).n < 0 := by omega
                  have hq0 : q = 0 := by have := hqb.out; unfold bitsOf at this; rw [if_neg (fun h => hn0 h.1)] at this; omega
                  by_cases hz : va / 2 ^ q = 0
                  · have hqa : Hid ((Mk.plays D i).asks (D i)) := hq.out.2 hz
                    have hz1 := shr_zero hz
                    have hz2 := shr_at0 hz1 hq0
                    go_upto_region 20 with (first | (go_at_call 18; (with_reducible refine (cP _).mono ?_); rintro e w0 ⟨rfl, rfl⟩) | (go_at_call 13; (with_reducible refine (cA _ _ hI.out.g).mono ?_); rintro e w3 ⟨rfl, O3, g3, o3, k3⟩))
                    have I3 : Hid (InM G w w3 O3 g bd (Mk.plays D i) (D i)) := hI.out.step hG'.out g3 o3 k3
                    clear cA cP g3 o3 k3 hI e0 e1 e2 e3 e4 e5 e6
                    have hI4 : Hid (InM G w w3 O3 g bd (Mk.plays D i) (D i)) := I3.out
                    have hw4 : Hid (WantIs D (i + 1) true) := hW.out.yes hsm hqa.out
                    have cc : Calls Try.prog 17 #[.pointer (some ⟨g, 0, none⟩), .agg #[.int .i64 (D i).what, .int .i64 (D i).a, .int .i64 (D i).b, .int .i64 (D i).n, .int .u64 ((D i).k : Nat), .slice (D i).L.ad (D i).L.n (D i).L.c, .slice (D i).ad (D i).m (D i).c]] w3 fun e w' => e = .returned (.tuple #[]) ∧ GAfter G O3 w3 w' g (Mk.plays D (i + 1)) := by
                      rw [plays_yes hsm]
                      exact mcallW hG'.out O3 g (Mk.plays D i) (plays_fit D (by omega)) (D i) (small_le hsm) w3 hI4.out.g (ddi.out.to hI4.out.b (Nat.le_refl _)) (ddi.out.apt hI4.out.o)
                    have e := hI4.out.x.cells
                    have ⟨e0, e1, e2, e3, e4, e5, e6⟩ := e
                    clear e
                    go_upto_region 20 with (fail)
                    go_wp2_with (go_at_call 17; (with_reducible refine cc.mono ?_); rintro e w9 ⟨rfl, O9, g9, o9, k9⟩)
                    have hI9 : Hid (OneM G w w9 g (Mk.plays D (i + 1))) := (hI4.out.step hG'.out g9 o9 k9).one
                    clear e0 e1 e2 e3 e4 e5 e6 cc g9 o9 k9 hI4
                    go_roundw
                    case rel => exact ⟨i + 1, true, by omega, by omega, by first | rfl | trivial, by go_num, hI9, hw4⟩
                    case measure => (simp [intOf]; omega)
                  · have hqa : Hid (¬ (Mk.plays D i).asks (D i)) := fun h => hz (hq.out.1 h)
                    have hz1 := shr_ne hz
                    have hz2 := shr_at0 hz1 hq0
                    go_upto_region 20 with (first | (go_at_call 18; (with_reducible refine (cP _).mono ?_); rintro e w0 ⟨rfl, rfl⟩) | (go_at_call 13; (with_reducible refine (cA _ _ hI.out.g).mono ?_); rintro e w3 ⟨rfl, O3, g3, o3, k3⟩))
                    have I3 : Hid (InM G w w3 O3 g bd (Mk.plays D i) (D i)) := hI.out.step hG'.out g3 o3 k3
                    clear cA cP g3 o3 k3 hI e0 e1 e2 e3 e4 e5 e6
                    have hI4 : Hid (InM G w w3 O3 g bd (Mk.plays D i) (D i)) := I3.out
                    have hw4 : Hid (WantIs D (i + 1) false) := WantIs.not (want := true) hsm hqa.out
                    have cc : Calls Try.prog 17 #[.pointer (some ⟨g, 0, none⟩), .agg #[.int .i64 (D i).what, .int .i64 (D i).a, .int .i64 (D i).b, .int .i64 (D i).n, .int .u64 ((D i).k : Nat), .slice (D i).L.ad (D i).L.n (D i).L.c, .slice (D i).ad (D i).m (D i).c]] w3 fun e w' => e = .returned (.tuple #[]) ∧ GAfter G O3 w3 w' g (Mk.plays D (i + 1)) := by
                      rw [plays_yes hsm]
                      exact mcallW hG'.out O3 g (Mk.plays D i) (plays_fit D (by omega)) (D i) (small_le hsm) w3 hI4.out.g (ddi.out.to hI4.out.b (Nat.le_refl _)) (ddi.out.apt hI4.out.o)
                    have e := hI4.out.x.cells
                    have ⟨e0, e1, e2, e3, e4, e5, e6⟩ := e
                    clear e
                    go_upto_region 20 with (fail)
                    go_wp2_with (go_at_call 17; (with_reducible refine cc.mono ?_); rintro e w9 ⟨rfl, O9, g9, o9, k9⟩)
                    have hI9 : Hid (OneM G w w9 g (Mk.plays D (i + 1))) := (hI4.out.step hG'.out g9 o9 k9).one
                    clear e0 e1 e2 e3 e4 e5 e6 cc g9 o9 k9 hI4
                    go_roundw
                    case rel => exact ⟨i + 1, false, by omega, by omega, by first | rfl | trivial, by go_num, hI9, hw4⟩
                    case measure => (simp [intOf]; omega)
              | false =>
                by_cases hn0 : 0 ≤ (D i).n
                · have hn0' : ¬ (D i).n < 0 := by omega
                  by_cases hn58 : (D i).n ≤ 58
                  · have hn58' : ¬ (58 : Int) < (D i).n := by omega
                    go_upto_region 20 with (first | (go_at_call 18; (with_reducible refine (cP _).mono ?_); rintro e w0 ⟨rfl, rfl⟩) | (go_at_call 13; (with_reducible refine (cA _ _ hI.out.g).mono ?_); rintro e w3 ⟨rfl, O3, g3, o3, k3⟩))
                    clear cA cP e0 e1 e2 e3 e4 e5 e6
                    have hI4 : Hid (InM G w W2 O g bd (Mk.plays D i) (D i)) := hI.out
                    have hw4 : Hid (WantIs D (i + 1) false) := WantIs.never hW.out hsm
                    have cc : Calls Try.prog 17 #[.pointer (some ⟨g, 0, none⟩), .agg #[.int .i64 (D i).what, .int .i64 (D i).a, .int .i64 (D i).b, .int .i64 (D i).n, .int .u64 ((D i).k : Nat), .slice (D i).L.ad (D i).L.n (D i).L.c, .slice (D i).ad (D i).m (D i).c]] W2 fun e w' => e = .returned (.tuple #[]) ∧ GAfter G O W2 w' g (Mk.plays D (i + 1)) := by
                      rw [plays_yes hsm]
                      exact mcallW hG'.out O g (Mk.plays D i) (plays_fit D (by omega)) (D i) (small_le hsm) W2 hI4.out.g (ddi.out.to hI4.out.b (Nat.le_refl _)) (ddi.out.apt hI4.out.o)
                    have e := hI4.out.x.cells
                    have ⟨e0, e1, e2, e3, e4, e5, e6⟩ := e
                    clear e
                    go_upto_region 20 with (fail)
                    go_wp2_with (go_at_call 17; (with_reducible refine cc.mono ?_); rintro e w9 ⟨rfl, O9, g9, o9, k9⟩)
                    have hI9 : Hid (OneM G w w9 g (Mk.plays D (i + 1))) := (hI4.out.step hG'.out g9 o9 k9).one
                    clear e0 e1 e2 e3 e4 e5 e6 cc g9 o9 k9 hI4
                    go_roundw
                    case rel => exact ⟨i + 1, false, by omega, by omega, by first | rfl | trivial, by go_num, hI9, hw4⟩
                    case measure => (simp [intOf]; omega)
                  · have hn58' : (58 : Int) < (D i).n := by omega
                    go_upto_region 20 with (first | (go_at_call 18; (with_reducible refine (cP _).mono ?_); rintro e w0 ⟨rfl, rfl⟩) | (go_at_call 13; (with_reducible refine (cA _ _ hI.out.g).mono ?_); rintro e w3 ⟨rfl, O3, g3, o3, k3⟩))
                    clear cA cP e0 e1 e2 e3 e4 e5 e6
                    have hI4 : Hid (InM G w W2 O g bd (Mk.plays D i) (D i)) := hI.out
                    have hw4 : Hid (WantIs D (i + 1) false) := WantIs.never hW.out hsm
                    have cc : Calls Try.prog 17 #[.pointer (some ⟨g, 0, none⟩), .agg #[.int .i64 (D i).what, .int .i64 (D i).a, .int .i64 (D i).b, .int .i64 (D i).n, .int .u64 ((D i).k : Nat), .slice (D i).L.ad (D i).L.n (D i).L.c, .slice (D i).ad (D i).m (D i).c]] W2 fun e w' => e = .returned (.tuple #[]) ∧ GAfter G O W2 w' g (Mk.plays D (i + 1)) := by
                      rw [plays_yes hsm]
                      exact mcallW hG'.out O g (Mk.plays D i) (plays_fit D (by omega)) (D i) (small_le hsm) W2 hI4.out.g (ddi.out.to hI4.out.b (Nat.le_refl _)) (ddi.out.apt hI4.out.o)
                    have e := hI4.out.x.cells
                    have ⟨e0, e1, e2, e3, e4, e5, e6⟩ := e
                    clear e
                    go_upto_region 20 with (fail)
                    go_wp2_with (go_at_call 17; (with_reducible refine cc.mono ?_); rintro e w9 ⟨rfl, O9, g9, o9, k9⟩)
                    have hI9 : Hid (OneM G w w9 g (Mk.plays D (i + 1))) := (hI4.out.step hG'.out g9 o9 k9).one
                    clear e0 e1 e2 e3 e4 e5 e6 cc g9 o9 k9 hI4
                    go_roundw
                    case rel => exact ⟨i + 1, false, by omega, by omega, by first | rfl | trivial, by go_num, hI9, hw4⟩
                    case measure => (simp [intOf]; omega)
                · have hn0' : (D i).n < 0 := by omega
                  go_upto_region 20 with (first | (go_at_call 18; (with_reducible refine (cP _).mono ?_); rintro e w0 ⟨rfl, rfl⟩) | (go_at_call 13; (with_reducible refine (cA _ _ hI.out.g).mono ?_); rintro e w3 ⟨rfl, O3, g3, o3, k3⟩))
                  clear cA cP e0 e1 e2 e3 e4 e5 e6
                  have hI4 : Hid (InM G w W2 O g bd (Mk.plays D i) (D i)) := hI.out
                  have hw4 : Hid (WantIs D (i + 1) false) := WantIs.never hW.out hsm
                  have cc : Calls Try.prog 17 #[.pointer (some ⟨g, 0, none⟩), .agg #[.int .i64 (D i).what, .int .i64 (D i).a, .int .i64 (D i).b, .int .i64 (D i).n, .int .u64 ((D i).k : Nat), .slice (D i).L.ad (D i).L.n (D i).L.c, .slice (D i).ad (D i).m (D i).c]] W2 fun e w' => e = .returned (.tuple #[]) ∧ GAfter G O W2 w' g (Mk.plays D (i + 1)) := by
                    rw [plays_yes hsm]
                    exact mcallW hG'.out O g (Mk.plays D i) (plays_fit D (by omega)) (D i) (small_le hsm) W2 hI4.out.g (ddi.out.to hI4.out.b (Nat.le_refl _)) (ddi.out.apt hI4.out.o)
                  have e := hI4.out.x.cells
                  have ⟨e0, e1, e2, e3, e4, e5, e6⟩ := e
                  clear e
                  go_upto_region 20 with (fail)
                  go_wp2_with (go_at_call 17; (with_reducible refine cc.mono ?_); rintro e w9 ⟨rfl, O9, g9, o9, k9⟩)
                  have hI9 : Hid (OneM G w w9 g (Mk.plays D (i + 1))) := (hI4.out.step hG'.out g9 o9 k9).one
                  clear e0 e1 e2 e3 e4 e5 e6 cc g9 o9 k9 hI4
                  go_roundw
                  case rel => exact ⟨i + 1, false, by omega, by omega, by first | rfl | trivial, by go_num, hI9, hw4⟩
                  case measure => (simp [intOf]; omega)
            · have h4' : ((p : Int) == 4) = false := by rw [beq_eq_false_iff_ne]; omega
              have hq : Hid ((Mk.plays D i).asks (D i)) := asks_other hpick.out h6 h4
              go_upto_region 20 with (go_at_call 18; (with_reducible refine (cP _).mono ?_); rintro e w0 ⟨rfl, rfl⟩)
              clear cP e0 e1 e2 e3 e4 e5 e6 hpick h6 h4 h6' h4'
              have hI4 : Hid (InM G w W2 O g bd (Mk.plays D i) (D i)) := hI.out
              have hw4 : Hid (WantIs D (i + 1) want) := hW.out.yes hsm hq.out
              have cc : Calls Try.prog 17 #[.pointer (some ⟨g, 0, none⟩), .agg #[.int .i64 (D i).what, .int .i64 (D i).a, .int .i64 (D i).b, .int .i64 (D i).n, .int .u64 ((D i).k : Nat), .slice (D i).L.ad (D i).L.n (D i).L.c, .slice (D i).ad (D i).m (D i).c]] W2 fun e w' => e = .returned (.tuple #[]) ∧ GAfter G O W2 w' g (Mk.plays D (i + 1)) := by
                rw [plays_yes hsm]
                exact mcallW hG'.out O g (Mk.plays D i) (plays_fit D (by omega)) (D i) (small_le hsm) W2 hI4.out.g (ddi.out.to hI4.out.b (Nat.le_refl _)) (ddi.out.apt hI4.out.o)
              have e := hI4.out.x.cells
              have ⟨e0, e1, e2, e3, e4, e5, e6⟩ := e
              clear e
              go_upto_region 20 with (fail)
              go_wp2_with (go_at_call 17; (with_reducible refine cc.mono ?_); rintro e w9 ⟨rfl, O9, g9, o9, k9⟩)
              have hI9 : Hid (OneM G w w9 g (Mk.plays D (i + 1))) := (hI4.out.step hG'.out g9 o9 k9).one
              clear e0 e1 e2 e3 e4 e5 e6 cc g9 o9 k9 hI4
              go_roundw
              case rel => exact ⟨i + 1, want, by omega, by omega, by first | rfl | trivial, by go_num, hI9, hw4⟩
              case measure => (simp [intOf]; omega)
      · have hl20' : ¬ (i : Int) < 20 := by omega
        obtain ⟨O, gO, oO, hB⟩ := hT.out
        have fD := plays_fit D hi20
        have hWant : Hid (want = true ↔ (Mk.plays D i).Hold) := hW.out.trans (plays_hold D i).symm
        have oO' : Hid (∀ k, O k → w.heap.size ≤ k) := oO
        have hB' : Hid (Below w.heap.size w wr) := hB
        generalize Mk.plays D i = S at *
        have cD := hG'.out.done wr O g S gO fD
        unfold rankV at cD
        clear oO hB hT hW
        obtain ⟨sn, hsn⟩ : ∃ sn, Hid (S.n = sn) := ⟨_, rfl⟩
        obtain ⟨sp, hsp⟩ : ∃ sp, Hid (S.pub = sp) := ⟨_, rfl⟩
        obtain ⟨sm, hsm⟩ : ∃ sm, Hid (S.m = sm) := ⟨_, rfl⟩
        rw [hsn.out, hsp.out, hsm.out] at cD
        have fD' : Hid S.fit := fD
        clear fD gO
        go_upto_region 22 with (go_at_call 15; (with_reducible refine cD.mono ?_); rintro e w5 ⟨Q, a5, c5, R5, x5, d5, rfl, g5, o5, k5, ns, sy, hd5, wd, hx5, _, _, _, _⟩)
        have fD := fD'.out
        have hB5 : Hid (Below w.heap.size w w5) := k5.to_below hB'.out oO'.out
        have b6 : Below w5.heap.size w5 (w5.alloc (.cells #[.int .i64 (sn : Nat), .int .i64 (sp : Nat), .slice a5 sm c5] 29)) := (Below.refl _ _).alloc (Nat.le_refl _) _
        have t6 : Three (w5.alloc (.cells #[.int .i64 (sn : Nat), .int .i64 (sp : Nat), .slice a5 sm c5] 29)) w5.heap.size (.int .i64 (sn : Nat)) (.int .i64 (sp : Nat)) (.slice a5 sm c5) := by (repeat' (first | (with_reducible first | assumption | exact Three.own (by with_reducible assumption) | refine Three.set ?_ _ _ _ | refine Own3.set ?_ _ _ _ | refine Three.drew ?_ | refine Three.drewN ?_ _ | refine Own3.drew ?_ | refine Own3.drewN ?_ _ | (refine Three.new ?_; simp only [szs]; done) | (refine Own3.new ?_; simp only [szs]; done) | refine Three.alloc ?_ _ | refine Own3.alloc ?_ _ | refine Three.far ?_ ?_ _ _ | refine Own3.far ?_ ?_ _ _ | refine Three.via (by with_reducible assumption) ?_ ?_ | refine Own3.via (by with_reducible assumption) ?_ ?_) | omega | (simp only [szs]; omega)))
        have hB6 : Hid (Below w.heap.size w (w5.alloc (.cells #[.int .i64 (sn : Nat), .int .i64 (sp : Nat), .slice a5 sm c5] 29))) := below_via b6 hB5.out hB5.out.size
        obtain ⟨bad, at_, hHold⟩ := hold_ex ((S.n : Nat) : Int) ((S.pub : Nat) : Int) S.m R5 S.n S.v
        have hz : Hid ((bad = 0 ∧ at_ = -1) ↔ S.Hold) := sy.holds fD.1 (Nat.le_trans fD.2.1 (by decide)) (Nat.le_trans fD.2.2 (by decide)) hHold
        have hpub := fD.1.pubs
        have hn3 : sn ≤ 3000 := by rw [← hsn.out]; exact fD.2.1
        have hm3 : sm ≤ 3000 := by rw [← hsm.out]; exact fD.2.2
        rw [hsn.out, hsp.out, hsm.out] at hHold
        rw [hsn.out, hsp.out] at hpub
        have cH : Calls Try.prog 19 #[.agg #[.int .i64 (sn : Nat), .int .i64 (sp : Nat), .slice a5 sm c5], .slice (some ⟨x5, 0, none⟩) sn d5] (w5.alloc (.cells #[.int .i64 (sn : Nat), .int .i64 (sp : Nat), .slice a5 sm c5] 29)) fun e w' => ∃ er, e = .returned er ∧ ErrIs (w5.alloc (.cells #[.int .i64 (sn : Nat), .int .i64 (sp : Nat), .slice a5 sm c5] 29)).heap.size w' er bad at_ ∧ Below (w5.alloc (.cells #[.int .i64 (sn : Nat), .int .i64 (sp : Nat), .slice a5 sm c5] 29)).heap.size (w5.alloc (.cells #[.int .i64 (sn : Nat), .int .i64 (sp : Nat), .slice a5 sm c5] 29)) w' :=
          hH'.out (sn : Nat) (sp : Nat) a5 sm c5 R5 ns.ok (by omega) (by omega) (by omega) (by omega) (by omega) (some ⟨x5, 0, none⟩) sn d5 (by omega) S.v (fun j => Nat.lt_trans (fD.1.lt j) (by decide)) bad at_ hHold _ (ns.rows.to b6 (Nat.le_refl _)) ((SrcW.of wd).to b6 (Nat.le_refl _))
        generalize (w5.alloc (.cells #[.int .i64 (sn : Nat), .int .i64 (sp : Nat), .slice a5 sm c5] 29)) = W6 at *
        generalize w5.heap.size = bs at *
        have ⟨f1, f2, f3, f4, f5, f6, f7⟩ := t6
        clear cD fD fD' g5 o5 k5 ns sy hd5 wd hx5 hB5 b6 t6 hHold hsn hsp hsm hpub hn3 hm3 hB' oO'
        cases want with
        | true =>
          have hz' : Hid (bad = 0 ∧ at_ = -1) := hz.out.2 (hWant.out.1 rfl)
          clear hz hWant
          go_wp2_with (go_at_call 19; (with_reducible refine cH.mono ?_); rintro e w7 ⟨er, rfl, i7, b7⟩; obtain rfl := i7.nil_iff.2 hz'.out; have hend : Hid (Below w.heap.size w w7) := below_via b7 hB6.out hB6.out.size; clear i7 b7)
          go_ret
          exact ⟨rfl, hend.out⟩
        | false =>
          have hz' : Hid (¬ (bad = 0 ∧ at_ = -1)) := fun h => by have := hWant.out.2 (hz.out.1 h); cases this
          clear hz hWant
          go_wp2_with (go_at_call 19; (with_reducible refine cH.mono ?_); rintro e w7 ⟨er, rfl, i7, b7⟩; obtain ⟨ty, va, rfl⟩ := i7.other hz'.out; have hend : Hid (Below w.heap.size w w7) := below_via b7 hB6.out hB6.out.size; clear i7 b7)
          go_ret
          exact ⟨rfl, hend.out⟩
    · have hlt' : ¬ (i : Int) < (n : Int) := by omega
      obtain ⟨O, gO, oO, hB⟩ := hT.out
      have fD := plays_fit D hi20
      have hWant : Hid (want = true ↔ (Mk.plays D i).Hold) := hW.out.trans (plays_hold D i).symm
      have oO' : Hid (∀ k, O k → w.heap.size ≤ k) := oO
      have hB' : Hid (Below w.heap.size w wr) := hB
      generalize Mk.plays D i = S at *
      have cD := hG'.out.done wr O g S gO fD
      unfold rankV at cD
      clear oO hB hT hW
      obtain ⟨sn, hsn⟩ : ∃ sn, Hid (S.n = sn) := ⟨_, rfl⟩
      obtain ⟨sp, hsp⟩ : ∃ sp, Hid (S.pub = sp) := ⟨_, rfl⟩
      obtain ⟨sm, hsm⟩ : ∃ sm, Hid (S.m = sm) := ⟨_, rfl⟩
      rw [hsn.out, hsp.out, hsm.out] at cD
      have fD' : Hid S.fit := fD
      clear fD gO
      go_upto_region 22 with (go_at_call 15; (with_reducible refine cD.mono ?_); rintro e w5 ⟨Q, a5, c5, R5, x5, d5, rfl, g5, o5, k5, ns, sy, hd5, wd, hx5, _, _, _, _⟩)
      have fD := fD'.out
      have hB5 : Hid (Below w.heap.size w w5) := k5.to_below hB'.out oO'.out
      have b6 : Below w5.heap.size w5 (w5.alloc (.cells #[.int .i64 (sn : Nat), .int .i64 (sp : Nat), .slice a5 sm c5] 29)) := (Below.refl _ _).alloc (Nat.le_refl _) _
      have t6 : Three (w5.alloc (.cells #[.int .i64 (sn : Nat), .int .i64 (sp : Nat), .slice a5 sm c5] 29)) w5.heap.size (.int .i64 (sn : Nat)) (.int .i64 (sp : Nat)) (.slice a5 sm c5) := by (repeat' (first | (with_reducible first | assumption | exact Three.own (by with_reducible assumption) | refine Three.set ?_ _ _ _ | refine Own3.set ?_ _ _ _ | refine Three.drew ?_ | refine Three.drewN ?_ _ | refine Own3.drew ?_ | refine Own3.drewN ?_ _ | (refine Three.new ?_; simp only [szs]; done) | (refine Own3.new ?_; simp only [szs]; done) | refine Three.alloc ?_ _ | refine Own3.alloc ?_ _ | refine Three.far ?_ ?_ _ _ | refine Own3.far ?_ ?_ _ _ | refine Three.via (by with_reducible assumption) ?_ ?_ | refine Own3.via (by with_reducible assumption) ?_ ?_) | omega | (simp only [szs]; omega)))
      have hB6 : Hid (Below w.heap.size w (w5.alloc (.cells #[.int .i64 (sn : Nat), .int .i64 (sp : Nat), .slice a5 sm c5] 29))) := below_via b6 hB5.out hB5.out.size
      obtain ⟨bad, at_, hHold⟩ := hold_ex ((S.n : Nat) : Int) ((S.pub : Nat) : Int) S.m R5 S.n S.v
      have hz : Hid ((bad = 0 ∧ at_ = -1) ↔ S.Hold) := sy.holds fD.1 (Nat.le_trans fD.2.1 (by decide)) (Nat.le_trans fD.2.2 (by decide)) hHold
      have hpub := fD.1.pubs
      have hn3 : sn ≤ 3000 := by rw [← hsn.out]; exact fD.2.1
      have hm3 : sm ≤ 3000 := by rw [← hsm.out]; exact fD.2.2
      rw [hsn.out, hsp.out, hsm.out] at hHold
      rw [hsn.out, hsp.out] at hpub
      have cH : Calls Try.prog 19 #[.agg #[.int .i64 (sn : Nat), .int .i64 (sp : Nat), .slice a5 sm c5], .slice (some ⟨x5, 0, none⟩) sn d5] (w5.alloc (.cells #[.int .i64 (sn : Nat), .int .i64 (sp : Nat), .slice a5 sm c5] 29)) fun e w' => ∃ er, e = .returned er ∧ ErrIs (w5.alloc (.cells #[.int .i64 (sn : Nat), .int .i64 (sp : Nat), .slice a5 sm c5] 29)).heap.size w' er bad at_ ∧ Below (w5.alloc (.cells #[.int .i64 (sn : Nat), .int .i64 (sp : Nat), .slice a5 sm c5] 29)).heap.size (w5.alloc (.cells #[.int .i64 (sn : Nat), .int .i64 (sp : Nat), .slice a5 sm c5] 29)) w' :=
        hH'.out (sn : Nat) (sp : Nat) a5 sm c5 R5 ns.ok (by omega) (by omega) (by omega) (by omega) (by omega) (some ⟨x5, 0, none⟩) sn d5 (by omega) S.v (fun j => Nat.lt_trans (fD.1.lt j) (by decide)) bad at_ hHold _ (ns.rows.to b6 (Nat.le_refl _)) ((SrcW.of wd).to b6 (Nat.le_refl _))
      generalize (w5.alloc (.cells #[.int .i64 (sn : Nat), .int .i64 (sp : Nat), .slice a5 sm c5] 29)) = W6 at *
      generalize w5.heap.size = bs at *
      have ⟨f1, f2, f3, f4, f5, f6, f7⟩ := t6
      clear cD fD fD' g5 o5 k5 ns sy hd5 wd hx5 hB5 b6 t6 hHold hsn hsp hsm hpub hn3 hm3 hB' oO'
      cases want with
      | true =>
        have hz' : Hid (bad = 0 ∧ at_ = -1) := hz.out.2 (hWant.out.1 rfl)
        clear hz hWant
        go_wp2_with (go_at_call 19; (with_reducible refine cH.mono ?_); rintro e w7 ⟨er, rfl, i7, b7⟩; obtain rfl := i7.nil_iff.2 hz'.out; have hend : Hid (Below w.heap.size w w7) := below_via b7 hB6.out hB6.out.size; clear i7 b7)
        go_ret
        exact ⟨rfl, hend.out⟩
      | false =>
        have hz' : Hid (¬ (bad = 0 ∧ at_ = -1)) := fun h => by have := hWant.out.2 (hz.out.1 h); cases this
        clear hz hWant
        go_wp2_with (go_at_call 19; (with_reducible refine cH.mono ?_); rintro e w7 ⟨er, rfl, i7, b7⟩; obtain ⟨ty, va, rfl⟩ := i7.other hz'.out; have hend : Hid (Below w.heap.size w w7) := below_via b7 hB6.out hB6.out.size; clear i7 b7)
        go_ret
        exact ⟨rfl, hend.out⟩
end Go.Proofs.Ytdbolfmmlmoiaaa

namespace Go.Proofs.Ytdbolfmmlmoiaaa
open Go.RowKit Go.Proofs
set_option linter.unusedVariables false
set_option linter.unusedSimpArgs false
/-- What a deed on both leaves. -/
def DoEnd (G : Mkr) (O : Nat → Prop) (r : Nat → Nat) (w w' : World) (g b : Nat) (S : Mk) : Prop :=
  ∃ (P : Nat → Prop) (s : Nat → Nat), G w' P g S ∧ Mdl s w' b S ∧ (∀ k, P k → s k = 0) ∧ (∀ k, P k → O k ∨ w.heap.size ≤ k) ∧ (∀ k, s k ≠ 0 → r k ≠ 0 ∨ w.heap.size ≤ k) ∧ KeepO (fun k => O k ∨ r k ≠ 0) w w'
/-- On the way: what both are now, since world w0. -/
structure DoIn (G : Mkr) (w0 : World) (O0 : Nat → Prop) (r0 : Nat → Nat) (w : World) (O : Nat → Prop) (r : Nat → Nat) (g b bd : Nat) (S T : Mk) (d : Dd) : Prop where
  g : G w O g S
  m : Mdl r w b T
  dis : ∀ k, O k → r k = 0
  o : ∀ k, O k → O0 k ∨ w0.heap.size ≤ k
  q : ∀ k, r k ≠ 0 → r0 k ≠ 0 ∨ w0.heap.size ≤ k
  k : KeepO (fun k => O0 k ∨ r0 k ≠ 0) w0 w
  x : DdB w bd d
  nO : ¬ O bd
  nr : r bd = 0
variable {G : Mkr} {w0 w w' : World} {O0 O O' : Nat → Prop} {r0 r s : Nat → Nat} {g b bd : Nat} {S S' T T' : Mk} {d : Dd}
theorem DoIn.start (hG : GadC G) (h : G w O g S) (m : Mdl r w b T) (dis : ∀ k, O k → r k = 0) (d : Dd) (Ty : TypeId) :
    DoIn G w O r (w.alloc (.cells #[.int .i64 d.what, .int .i64 d.a, .int .i64 d.b, .int .i64 d.n, .int .u64 (d.k : Nat), .slice d.L.ad d.L.n d.L.c, .slice d.ad d.m d.c] Ty)) O r g b w.heap.size S T d := by
  have hb := (Below.refl w.heap.size w).alloc (Nat.le_refl _) (.cells #[.int .i64 d.what, .int .i64 d.a, .int .i64 d.b, .int .i64 d.n, .int .u64 (d.k : Nat), .slice d.L.ad d.L.n d.L.c, .slice d.ad d.m d.c] Ty)
  exact ⟨hG.below h hb, m.below hb, dis, fun k hk => Or.inl hk, fun k hk => Or.inl hk, KeepO.of_below hb, DdB.new w d Ty, fun hk => by have := hG.lt h _ hk; omega, m.zero _ (Nat.le_refl _)⟩
theorem DoIn.finish (h : DoIn G w0 O0 r0 w O r g b bd S S d) : DoEnd G O0 r0 w0 w g b S := ⟨O, r, h.g, h.m, h.dis, h.o, h.q, h.k⟩
theorem DoIn.left (hG : GadC G) (h : DoIn G w0 O0 r0 w O r g b bd S T d) (g' : G w' O' g S') (o' : ∀ k, O' k → O k ∨ w.heap.size ≤ k) (k' : KeepO O w w') : DoIn G w0 O0 r0 w' O' r g b bd S' T d := by
  have z := h.k.size
  have l := h.x.lt
  refine ⟨g', h.m.keep k' (fun k hr ho => hr (h.dis k ho)), fun k hk => ?_, fun k hk => ?_, h.q, h.k.trans k' (fun k hk ho => (h.o k ho).elim Or.inl fun h1 => by omega), h.x.keepO k' h.nO, fun hk => ?_, h.nr⟩
  · rcases o' k hk with h1 | h1
    · exact h.dis k h1
    · exact h.m.zero k h1
  · rcases o' k hk with h1 | h1
    · exact h.o k h1
    · exact Or.inr (by omega)
  · rcases o' bd hk with h1 | h1
    · exact h.nO h1
    · omega
theorem DoIn.right (hG : GadC G) (h : DoIn G w0 O0 r0 w O r g b bd S T d) (m' : Mdl s w' b T') (q' : ∀ k, s k ≠ 0 → r k ≠ 0 ∨ w.heap.size ≤ k) (k' : KeepO (fun k => r k ≠ 0) w w') : DoIn G w0 O0 r0 w' O s g b bd S T' d := by
  have z := h.k.size
  have l := h.x.lt
  refine ⟨hG.keep h.g k' (fun k ho hr => hr (h.dis k ho)), m', fun k hk => Decidable.byContradiction fun hs => ?_, h.o, fun k hk => ?_, h.k.trans k' (fun k hk hr => (h.q k hr).elim Or.inr fun h1 => by omega), h.x.keepO k' (fun hr => hr h.nr), h.nO, Decidable.byContradiction fun hs => ?_⟩
  · rcases q' k hs with h1 | h1
    · exact h1 (h.dis k hk)
    · have := hG.lt h.g k hk; omega
  · rcases q' k hk with h1 | h1
    · exact h.q k h1
    · exact Or.inr (by omega)
  · rcases q' bd hs with h1 | h1
    · exact h1 h.nr
    · omega
theorem DoIn.after (hG : GadC G) (h : DoIn G w0 O0 r0 w O r g b bd S T d) (a : After r w w' b T') : ∃ s, DoIn G w0 O0 r0 w' O s g b bd S T' d ∧ (∀ k, s k ≠ 0 → r k ≠ 0 ∨ w.heap.size ≤ k) ∧ KeepO (fun k => r k ≠ 0) w w' := by
  obtain ⟨s, m, h1, h2, h3⟩ := a.get
  exact ⟨s, h.right hG m h1 h3, h1, h3⟩
theorem DoIn.gafter (hG : GadC G) (h : DoIn G w0 O0 r0 w O r g b bd S T d) (a : GAfter G O w w' g S') : ∃ P, DoIn G w0 O0 r0 w' P r g b bd S' T d ∧ KeepO O w w' := by
  obtain ⟨P, h1, h2, h3⟩ := a
  exact ⟨P, h.left hG h1 h2 h3, h3⟩
theorem DoIn.below (hG : GadC G) (h : DoIn G w0 O0 r0 w O r g b bd S T d) (hb : Below w.heap.size w w') : DoIn G w0 O0 r0 w' O r g b bd S T d :=
  h.left hG (hG.below h.g hb) (fun k hk => Or.inl hk) (KeepO.of_below hb)
theorem DoIn.drew (hG : GadC G) (h : DoIn G w0 O0 r0 w O r g b bd S T d) : DoIn G w0 O0 r0 w.drew O r g b bd S T d := h.below hG (Below.refl _ _).drew
/-- The deed's own lists, which neither maker owns. -/
theorem DoIn.at_ {B : Nat} (h : DoIn G w0 O0 r0 w O r g b bd S T d) (hd : d.At B w0) (hB : B ≤ w0.heap.size) (oB : ∀ k, O0 k → B ≤ k) (rB : ∀ k, r0 k ≠ 0 → B ≤ k) : d.At w.heap.size w :=
  hd.to (h.k.below (fun k hk hh => by rcases hh with h1 | h1; (have := oB k h1; omega); (have := rB k h1; omega)) hB) hB
end Go.Proofs.Ytdbolfmmlmoiaaa

namespace Go.Proofs.Ytdbolfmmlmoiaaa
open Go.RowKit Go.Proofs
set_option linter.unusedVariables false
set_option linter.unusedSimpArgs false
attribute [local go_sem ↓] Go.wp_at_zero Go.wp_at_succ
set_option maxRecDepth 8000 in
set_option maxHeartbeats 16000000 in
theorem mdo1W {G : Mkr} (hG : GadC G) (O : Nat → Prop) (r : Nat → Nat) (g b : Nat) (S : Mk) (hf : S.fit) (d : Dd) (hs : d.L.n ≤ 20 ∧ d.m ≤ 5) (B : Nat) (w : World) (h : G w O g S) (m : Mdl r w b S) (dis : ∀ k, O k → r k = 0) (hd : d.At B w) (hB : B ≤ w.heap.size) (oB : ∀ k, O k → B ≤ k) (rB : ∀ k, r k ≠ 0 → B ≤ k) (hp : pickN d.what 9 = 1) :
    Calls Try.prog 12 #[.pointer (some ⟨g, 0, none⟩), .pointer (some ⟨b, 0, none⟩), d.val] w fun e w' => e = .returned (.bool true) ∧ DoEnd G O r w w' g b (S.deed d) := by
  have hG' : Hid (GadC G) := hG
  have I0 : Hid (DoIn G w O r (w.alloc (.cells #[.int .i64 d.what, .int .i64 d.a, .int .i64 d.b, .int .i64 d.n, .int .u64 (d.k : Nat), .slice d.L.ad d.L.n d.L.c, .slice d.ad d.m d.c] 38)) O r g b w.heap.size (S) (S) d) := DoIn.start hG h m dis d _
  have hat : Hid (∀ W O1 r1 T1 T2, DoIn G w O r W O1 r1 g b w.heap.size T1 T2 d → d.At W.heap.size W) := fun W O1 r1 T1 T2 I => I.at_ hd hB oB rB
  have fit' : Hid S.fit := hf
  have hda : Hid (-9223372036854775808 ≤ d.a ∧ d.a < 9223372036854775808) := hd.a
  have hdb : Hid (-9223372036854775808 ≤ d.b ∧ d.b < 9223372036854775808) := hd.b
  have hdn : Hid (-9223372036854775808 ≤ d.n ∧ d.n < 9223372036854775808) := hd.n
  have hdk : Hid (d.k < 18446744073709551616) := hd.k
  have hdL : Hid d.L.Ok := hd.L
  have hdV : Hid (∀ i, -9223372036854775808 ≤ d.V i ∧ d.V i < 9223372036854775808) := hd.V
  have hs' : Hid (d.L.n ≤ 20 ∧ d.m ≤ 5) := hs
  have hdeed : Hid (S.deed d = S.fresh (Ob.toG d.k)) := by show S.deed d = _; unfold Mk.deed; simp only [hp]
  have cP := fun w => mpickW d.what hd.what.1 hd.what.2 w
  rw [hp, (show (((1 : Nat) : Int)) = 1 from rfl)] at cP
  have cI := fun v => misW r b S hf.1 v _ I0.out.m
  have laa : S.is d.a < S.n := Mk.is_lt hf.1 _
  have lab : S.is d.b < S.n := Mk.is_lt hf.1 _
  have lan : S.is d.n < S.n := Mk.is_lt hf.1 _
  have hn3 := hf.2.1
  have hm3 := hf.2.2
  clear h m dis hd hB oB rB hp hG hf hs
  unfold Dd.val Lst.val
  go_enter Try.func12, Try.ntmps12
  go_upto_region 1 with (fail)
  have e := I0.out.x.cells
  have z1 := I0.out.x.lt
  generalize (w.alloc (.cells #[.int .i64 d.what, .int .i64 d.a, .int .i64 d.b, .int .i64 d.n, .int .u64 (d.k : Nat), .slice d.L.ad d.L.n d.L.c, .slice d.ad d.m d.c] 38)) = W1 at *
  have ⟨e0, e1, e2, e3, e4, e5, e6⟩ := e
  clear e
  go_upto_region 12 with (first | (go_at_call 14; (with_reducible refine (cI _).mono ?_); rintro e w0 ⟨rfl, rfl⟩) | (go_at_call 18; (with_reducible refine (cP _).mono ?_); rintro e w0 ⟨rfl, rfl⟩))
  clear cP cI
  have ID : Hid (DoIn G w O r W1.drew O r g b w.heap.size (S) (S) d) := I0.out.drew hG'.out
  have cA := hG'.out.private_ W1.drew O g S ID.out.g fit'.out d.k hdk.out
  have cB : Hid (∀ W s, Mdl s W b S → Calls Try.prog 29 #[.pointer (some ⟨b, 0, none⟩), .int .u64 (d.k : Nat)] W fun e w' => e = .returned (.int .i64 (S.n : Nat)) ∧ After s W w' b (S.fresh (Ob.toG d.k))) := fun W s hm => mfreshW s b S (by omega) d.k hdk.out W hm
  go_region_held3 (fun w' : World => w'.cell? ⟨w.heap.size, 4, none⟩ = some (.int .u64 (d.k : Nat))) (go_keep)
    ((first | (go_at_call 20; (with_reducible refine cA.mono ?_); rintro e w3 ⟨rfl, a3⟩; obtain ⟨P3, J3, k3⟩ := ID.out.gafter hG'.out a3; have I3 : Hid (DoIn G w O r w3 P3 r g b w.heap.size (S.fresh (Ob.toG d.k)) (S) d) := J3; have x3 := I3.out.x.c4) | (go_at_call 29; (with_reducible refine (cB.out _ _ I3.out.m).mono ?_); rintro e w4 ⟨rfl, a4⟩; obtain ⟨s4, J4, q4, k4⟩ := I3.out.after hG'.out a4; have I4 : Hid (DoIn G w O r w4 P3 s4 g b w.heap.size (S.fresh (Ob.toG d.k)) (S.fresh (Ob.toG d.k)) d) := J4; have x4 := I4.out.x.c4)))
  have hend : Hid (DoEnd G O r w w4 g b (S.deed d)) := by
    show DoEnd G O r w w4 g b (S.deed d)
    rw [hdeed.out]
    exact I4.out.finish
  go_wp2
  (try go_ret)
  exact ⟨rfl, hend.out⟩
set_option maxRecDepth 8000 in
set_option maxHeartbeats 16000000 in
theorem mdo2W {G : Mkr} (hG : GadC G) (O : Nat → Prop) (r : Nat → Nat) (g b : Nat) (S : Mk) (hf : S.fit) (d : Dd) (hs : d.L.n ≤ 20 ∧ d.m ≤ 5) (B : Nat) (w : World) (h : G w O g S) (m : Mdl r w b S) (dis : ∀ k, O k → r k = 0) (hd : d.At B w) (hB : B ≤ w.heap.size) (oB : ∀ k, O k → B ≤ k) (rB : ∀ k, r k ≠ 0 → B ≤ k) (hp : pickN d.what 9 = 2) :
    Calls Try.prog 12 #[.pointer (some ⟨g, 0, none⟩), .pointer (some ⟨b, 0, none⟩), d.val] w fun e w' => e = .returned (.bool true) ∧ DoEnd G O r w w' g b (S.deed d) := by
  have hG' : Hid (GadC G) := hG
  have I0 : Hid (DoIn G w O r (w.alloc (.cells #[.int .i64 d.what, .int .i64 d.a, .int .i64 d.b, .int .i64 d.n, .int .u64 (d.k : Nat), .slice d.L.ad d.L.n d.L.c, .slice d.ad d.m d.c] 38)) O r g b w.heap.size (S) (S) d) := DoIn.start hG h m dis d _
  have hat : Hid (∀ W O1 r1 T1 T2, DoIn G w O r W O1 r1 g b w.heap.size T1 T2 d → d.At W.heap.size W) := fun W O1 r1 T1 T2 I => I.at_ hd hB oB rB
  have fit' : Hid S.fit := hf
  have hda : Hid (-9223372036854775808 ≤ d.a ∧ d.a < 9223372036854775808) := hd.a
  have hdb : Hid (-9223372036854775808 ≤ d.b ∧ d.b < 9223372036854775808) := hd.b
  have hdn : Hid (-9223372036854775808 ≤ d.n ∧ d.n < 9223372036854775808) := hd.n
  have hdk : Hid (d.k < 18446744073709551616) := hd.k
  have hdL : Hid d.L.Ok := hd.L
  have hdV : Hid (∀ i, -9223372036854775808 ≤ d.V i ∧ d.V i < 9223372036854775808) := hd.V
  have hs' : Hid (d.L.n ≤ 20 ∧ d.m ≤ 5) := hs
  have hdeed : Hid (S.deed d = S.linear (S.isL d.L)) := by show S.deed d = _; unfold Mk.deed; simp only [hp]
  have cP := fun w => mpickW d.what hd.what.1 hd.what.2 w
  rw [hp, (show (((2 : Nat) : Int)) = 2 from rfl)] at cP
  have cI := fun v => misW r b S hf.1 v _ I0.out.m
  have laa : S.is d.a < S.n := Mk.is_lt hf.1 _
  have lab : S.is d.b < S.n := Mk.is_lt hf.1 _
  have lan : S.is d.n < S.n := Mk.is_lt hf.1 _
  have hn3 := hf.2.1
  have hm3 := hf.2.2
  clear h m dis hd hB oB rB hp hG hf hs
  unfold Dd.val Lst.val
  go_enter Try.func12, Try.ntmps12
  go_upto_region 1 with (fail)
  have e := I0.out.x.cells
  have z1 := I0.out.x.lt
  generalize (w.alloc (.cells #[.int .i64 d.what, .int .i64 d.a, .int .i64 d.b, .int .i64 d.n, .int .u64 (d.k : Nat), .slice d.L.ad d.L.n d.L.c, .slice d.ad d.m d.c] 38)) = W1 at *
  have ⟨e0, e1, e2, e3, e4, e5, e6⟩ := e
  clear e
  go_upto_region 14 with (first | (go_at_call 14; (with_reducible refine (cI _).mono ?_); rintro e w0 ⟨rfl, rfl⟩) | (go_at_call 18; (with_reducible refine (cP _).mono ?_); rintro e w0 ⟨rfl, rfl⟩))
  clear cP cI
  have ID : Hid (DoIn G w O r W1.drew O r g b w.heap.size (S) (S) d) := I0.out.drew hG'.out
  have cA := hG'.out.linear W1.drew O g S ID.out.g fit'.out d.L hdL.out hs'.out.1 (hat.out _ _ _ _ _ ID.out).l
  have cB : Hid (∀ W O1 s T1, DoIn G w O r W O1 s g b w.heap.size T1 S d → Calls Try.prog 31 #[.pointer (some ⟨b, 0, none⟩), .slice d.L.ad d.L.n d.L.c] W fun e w' => e = .returned (.int .i64 (S.n : Nat)) ∧ After s W w' b (S.linear (S.isL d.L))) := fun W O1 s T1 J => mlinearW s b S fit'.out.1 (by omega) (by omega) d.L hdL.out (by have := hs'.out.1; omega) (S.isL d.L) (LEq.refl _) W J.m (hat.out _ _ _ _ _ J).l
  unfold Lst.val at cA
  go_region_held3 (fun w' : World => w'.cell? ⟨w.heap.size, 5, none⟩ = some (.slice d.L.ad d.L.n d.L.c)) (go_keep)
    ((first | (go_at_call 30; (with_reducible refine cA.mono ?_); rintro e w3 ⟨rfl, a3⟩; obtain ⟨P3, J3, k3⟩ := ID.out.gafter hG'.out a3; have I3 : Hid (DoIn G w O r w3 P3 r g b w.heap.size (S.linear (S.isL d.L)) (S) d) := J3; have x3 := I3.out.x.c5) | (go_at_call 31; (with_reducible refine (cB.out _ _ _ _ I3.out).mono ?_); rintro e w4 ⟨rfl, a4⟩; obtain ⟨s4, J4, q4, k4⟩ := I3.out.after hG'.out a4; have I4 : Hid (DoIn G w O r w4 P3 s4 g b w.heap.size (S.linear (S.isL d.L)) (S.linear (S.isL d.L)) d) := J4; have x4 := I4.out.x.c5)))
  have hend : Hid (DoEnd G O r w w4 g b (S.deed d)) := by
    show DoEnd G O r w w4 g b (S.deed d)
    rw [hdeed.out]
    exact I4.out.finish
  go_wp2
  (try go_ret)
  exact ⟨rfl, hend.out⟩
set_option maxRecDepth 8000 in
set_option maxHeartbeats 16000000 in
theorem mdo7W {G : Mkr} (hG : GadC G) (O : Nat → Prop) (r : Nat → Nat) (g b : Nat) (S : Mk) (hf : S.fit) (d : Dd) (hs : d.L.n ≤ 20 ∧ d.m ≤ 5) (B : Nat) (w : World) (h : G w O g S) (m : Mdl r w b S) (dis : ∀ k, O k → r k = 0) (hd : d.At B w) (hB : B ≤ w.heap.size) (oB : ∀ k, O k → B ≤ k) (rB : ∀ k, r k ≠ 0 → B ≤ k) (hp : pickN d.what 9 = 7) :
    Calls Try.prog 12 #[.pointer (some ⟨g, 0, none⟩), .pointer (some ⟨b, 0, none⟩), d.val] w fun e w' => e = .returned (.bool true) ∧ DoEnd G O r w w' g b (S.deed d) := by
  have hG' : Hid (GadC G) := hG
  have I0 : Hid (DoIn G w O r (w.alloc (.cells #[.int .i64 d.what, .int .i64 d.a, .int .i64 d.b, .int .i64 d.n, .int .u64 (d.k : Nat), .slice d.L.ad d.L.n d.L.c, .slice d.ad d.m d.c] 38)) O r g b w.heap.size (S) (S) d) := DoIn.start hG h m dis d _
  have hat : Hid (∀ W O1 r1 T1 T2, DoIn G w O r W O1 r1 g b w.heap.size T1 T2 d → d.At W.heap.size W) := fun W O1 r1 T1 T2 I => I.at_ hd hB oB rB
  have fit' : Hid S.fit := hf
  have hda : Hid (-9223372036854775808 ≤ d.a ∧ d.a < 9223372036854775808) := hd.a
  have hdb : Hid (-9223372036854775808 ≤ d.b ∧ d.b < 9223372036854775808) := hd.b
  have hdn : Hid (-9223372036854775808 ≤ d.n ∧ d.n < 9223372036854775808) := hd.n
  have hdk : Hid (d.k < 18446744073709551616) := hd.k
  have hdL : Hid d.L.Ok := hd.L
  have hdV : Hid (∀ i, -9223372036854775808 ≤ d.V i ∧ d.V i < 9223372036854775808) := hd.V
  have hs' : Hid (d.L.n ≤ 20 ∧ d.m ≤ 5) := hs
  have hdeed : Hid (S.deed d = S.two (S.is d.a) (S.is d.b)) := by show S.deed d = _; unfold Mk.deed; simp only [hp]
  have cP := fun w => mpickW d.what hd.what.1 hd.what.2 w
  rw [hp, (show (((7 : Nat) : Int)) = 7 from rfl)] at cP
  have cI := fun v => misW r b S hf.1 v _ I0.out.m
  have laa : S.is d.a < S.n := Mk.is_lt hf.1 _
  have lab : S.is d.b < S.n := Mk.is_lt hf.1 _
  have lan : S.is d.n < S.n := Mk.is_lt hf.1 _
  have hn3 := hf.2.1
  have hm3 := hf.2.2
  clear h m dis hd hB oB rB hp hG hf hs
  unfold Dd.val Lst.val
  go_enter Try.func12, Try.ntmps12
  go_upto_region 1 with (fail)
  have e := I0.out.x.cells
  have z1 := I0.out.x.lt
  generalize (w.alloc (.cells #[.int .i64 d.what, .int .i64 d.a, .int .i64 d.b, .int .i64 d.n, .int .u64 (d.k : Nat), .slice d.L.ad d.L.n d.L.c, .slice d.ad d.m d.c] 38)) = W1 at *
  have ⟨e0, e1, e2, e3, e4, e5, e6⟩ := e
  clear e
  go_upto_region 39 with (first | (go_at_call 14; (with_reducible refine (cI _).mono ?_); rintro e w0 ⟨rfl, rfl⟩) | (go_at_call 18; (with_reducible refine (cP _).mono ?_); rintro e w0 ⟨rfl, rfl⟩))
  clear cP cI
  have cA := hG'.out.two W1 O g S I0.out.g fit'.out d.a d.b hda.out hdb.out
  have cB : Hid (∀ W s, Mdl s W b S → Calls Try.prog 42 #[.pointer (some ⟨b, 0, none⟩), .int .i64 (S.is d.a : Nat), .int .i64 (S.is d.b : Nat)] W fun e w' => e = .returned (.int .i64 ((S.n + 6 : Nat) : Int)) ∧ After s W w' b (S.two (S.is d.a) (S.is d.b))) := fun W s hm => mtwoW s b S fit'.out.1 (by omega) (by omega) _ _ laa lab W hm
  generalize ((S.n + 6 : Nat) : Int) = ans at *
  go_wp2_with (first | (go_at_call 21; (with_reducible refine cA.mono ?_); rintro e w3 ⟨rfl, a3⟩; obtain ⟨P3, J3, k3⟩ := I0.out.gafter hG'.out a3; have I3 : Hid (DoIn G w O r w3 P3 r g b w.heap.size (S.two (S.is d.a) (S.is d.b)) (S) d) := J3) | (go_at_call 42; (with_reducible refine (cB.out _ _ I3.out.m).mono ?_); rintro e w4 ⟨rfl, a4⟩; obtain ⟨s4, J4, q4, k4⟩ := I3.out.after hG'.out a4; have I4 : Hid (DoIn G w O r w4 P3 s4 g b w.heap.size (S.two (S.is d.a) (S.is d.b)) (S.two (S.is d.a) (S.is d.b)) d) := J4))
  have hend : Hid (DoEnd G O r w w4 g b (S.deed d)) := by
    show DoEnd G O r w w4 g b (S.deed d)
    rw [hdeed.out]
    exact I4.out.finish
  (try go_ret)
  exact ⟨rfl, hend.out⟩
end Go.Proofs.Ytdbolfmmlmoiaaa

namespace Go.Proofs.Ytdbolfmmlmoiaaa
open Go.RowKit Go.Proofs
set_option linter.unusedVariables false
set_option linter.unusedSimpArgs false
attribute [local go_sem ↓] Go.wp_at_zero Go.wp_at_succ
set_option maxRecDepth 8000 in
set_option maxHeartbeats 16000000 in
theorem mdo3W {G : Mkr} (hG : GadC G) (O : Nat → Prop) (r : Nat → Nat) (g b : Nat) (S : Mk) (hf : S.fit) (d : Dd) (hs : d.L.n ≤ 20 ∧ d.m ≤ 5) (B : Nat) (w : World) (h : G w O g S) (m : Mdl r w b S) (dis : ∀ k, O k → r k = 0) (hd : d.At B w) (hB : B ≤ w.heap.size) (oB : ∀ k, O k → B ≤ k) (rB : ∀ k, r k ≠ 0 → B ≤ k) (hp : pickN d.what 9 = 3) :
    Calls Try.prog 12 #[.pointer (some ⟨g, 0, none⟩), .pointer (some ⟨b, 0, none⟩), d.val] w fun e w' => e = .returned (.bool true) ∧ DoEnd G O r w w' g b (S.deed d) := by
  have hG' : Hid (GadC G) := hG
  have I0 : Hid (DoIn G w O r (w.alloc (.cells #[.int .i64 d.what, .int .i64 d.a, .int .i64 d.b, .int .i64 d.n, .int .u64 (d.k : Nat), .slice d.L.ad d.L.n d.L.c, .slice d.ad d.m d.c] 38)) O r g b w.heap.size (S) (S) d) := DoIn.start hG h m dis d _
  have hat : Hid (∀ W O1 r1 T1 T2, DoIn G w O r W O1 r1 g b w.heap.size T1 T2 d → d.At W.heap.size W) := fun W O1 r1 T1 T2 I => I.at_ hd hB oB rB
  have fit' : Hid S.fit := hf
  have hda : Hid (-9223372036854775808 ≤ d.a ∧ d.a < 9223372036854775808) := hd.a
  have hdb : Hid (-9223372036854775808 ≤ d.b ∧ d.b < 9223372036854775808) := hd.b
  have hdn : Hid (-9223372036854775808 ≤ d.n ∧ d.n < 9223372036854775808) := hd.n
  have hdk : Hid (d.k < 18446744073709551616) := hd.k
  have hdL : Hid d.L.Ok := hd.L
  have hdV : Hid (∀ i, -9223372036854775808 ≤ d.V i ∧ d.V i < 9223372036854775808) := hd.V
  have hs' : Hid (d.L.n ≤ 20 ∧ d.m ≤ 5) := hs
  have hdeed : Hid (S.deed d = S.mulL (just (S.is d.a)) (just (S.is d.b))) := by show S.deed d = _; unfold Mk.deed; simp only [hp]
  have cP := fun w => mpickW d.what hd.what.1 hd.what.2 w
  rw [hp, (show (((3 : Nat) : Int)) = 3 from rfl)] at cP
  have cI := fun v => misW r b S hf.1 v _ I0.out.m
  have laa : S.is d.a < S.n := Mk.is_lt hf.1 _
  have lab : S.is d.b < S.n := Mk.is_lt hf.1 _
  have lan : S.is d.n < S.n := Mk.is_lt hf.1 _
  have hn3 := hf.2.1
  have hm3 := hf.2.2
  clear h m dis hd hB oB rB hp hG hf hs
  unfold Dd.val Lst.val
  go_enter Try.func12, Try.ntmps12
  go_upto_region 1 with (fail)
  have e := I0.out.x.cells
  have z1 := I0.out.x.lt
  generalize (w.alloc (.cells #[.int .i64 d.what, .int .i64 d.a, .int .i64 d.b, .int .i64 d.n, .int .u64 (d.k : Nat), .slice d.L.ad d.L.n d.L.c, .slice d.ad d.m d.c] 38)) = W1 at *
  have ⟨e0, e1, e2, e3, e4, e5, e6⟩ := e
  clear e
  go_upto_region 16 with (first | (go_at_call 14; (with_reducible refine (cI _).mono ?_); rintro e w0 ⟨rfl, rfl⟩) | (go_at_call 18; (with_reducible refine (cP _).mono ?_); rintro e w0 ⟨rfl, rfl⟩))
  clear cP cI
  have cA := hG'.out.mul W1 O g S I0.out.g fit'.out d.a d.b hda.out hdb.out
  have cJ : Hid (∀ v, v < 9223372036854775808 → ∀ W, Calls Try.prog 33 #[.int .i64 (v : Nat)] W fun e w' => ∃ L : Lst, e = .returned (.slice L.ad L.n L.c) ∧ L.Ok ∧ L.n = 1 ∧ LEq L (just v) ∧ L.At w'.heap.size w' ∧ Below W.heap.size W w' ∧ ∀ k, L.val.ownBlock = some k → W.heap.size ≤ k) := fun v hv W => mjustF v hv W
  have ja := cJ.out (S.is d.a) (by omega)
  have jb := cJ.out (S.is d.b) (by omega)
  generalize S.is d.a = va at *
  generalize S.is d.b = vb at *
  go_upto_region 16 with (fail)
  go_wp2_with (first | (go_at_call 28; (with_reducible refine cA.mono ?_); rintro e w3 ⟨rfl, a3⟩; obtain ⟨P3, J3, k3⟩ := I0.out.gafter hG'.out a3; have I3 : Hid (DoIn G w O r w3 P3 r g b w.heap.size (S.mulL (just va) (just vb)) (S) d) := J3; clear a3 J3 k3) | (go_at_call 33; (with_reducible refine (ja w3).mono ?_); rintro e w4 ⟨L1, rfl, o1, n1, q1, t1, b1, k1⟩; have F1 : Hid (L1.Ok ∧ L1.n ≤ 1000 ∧ LEq L1 (just va) ∧ L1.At w4.heap.size w4 ∧ Below w3.heap.size w3 w4 ∧ ∀ k, L1.val.ownBlock = some k → w3.heap.size ≤ k) := ⟨o1, (by omega), q1, t1, b1, k1⟩; clear o1 n1 q1 t1 b1 k1) | (go_at_call 33; (with_reducible refine (jb w4).mono ?_); rintro e w5 ⟨L2, rfl, o2, n2, q2, t2, b2, k2⟩; have F2 : Hid (L2.Ok ∧ L2.n ≤ 1000 ∧ LEq L2 (just vb) ∧ L2.At w5.heap.size w5 ∧ Below w4.heap.size w4 w5 ∧ ∀ k, L2.val.ownBlock = some k → w4.heap.size ≤ k) := ⟨o2, (by omega), q2, t2, b2, k2⟩; clear o2 n2 q2 t2 b2 k2; have I5 : Hid (DoIn G w O r w5 P3 r g b w.heap.size (S.mulL (just va) (just vb)) (S) d) := (I3.out.below hG'.out F1.out.2.2.2.2.1).below hG'.out F2.out.2.2.2.2.1; have cM : Calls Try.prog 32 #[.pointer (some ⟨b, 0, none⟩), .slice L1.ad L1.n L1.c, .slice L2.ad L2.n L2.c] w5 fun e w' => e = .returned (.int .i64 (S.n : Nat)) ∧ After r w5 w' b (S.mulL (just va) (just vb)) := (mmulW r b S fit'.out.1 (by omega) (by omega) L1 L2 F1.out.1 F2.out.1 F1.out.2.1 F2.out.2.1 (just va) (just vb) F1.out.2.2.1 F2.out.2.2.1 w5 I5.out.m (TrmsAt.to F1.out.2.2.2.1 F2.out.2.2.2.2.1 (Nat.le_refl _)) F2.out.2.2.2.1 (fun k hk => I3.out.m.zero k (F1.out.2.2.2.2.2 k hk)) (fun k hk => I3.out.m.zero k (Nat.le_trans F1.out.2.2.2.2.1.size (F2.out.2.2.2.2.2 k hk))))) | (go_at_call 32; (with_reducible refine cM.mono ?_); rintro e w6 ⟨rfl, a6⟩; obtain ⟨s6, J6, q6, k6⟩ := I5.out.after hG'.out a6; have I6 : Hid (DoIn G w O r w6 P3 s6 g b w.heap.size (S.mulL (just va) (just vb)) (S.mulL (just va) (just vb)) d) := J6))
  have hend : Hid (DoEnd G O r w w6 g b (S.deed d)) := by
    show DoEnd G O r w w6 g b (S.deed d)
    rw [hdeed.out]
    exact I6.out.finish
  (try go_ret)
  exact ⟨rfl, hend.out⟩
set_option maxRecDepth 8000 in
set_option maxHeartbeats 16000000 in
theorem mdo6W {G : Mkr} (hG : GadC G) (O : Nat → Prop) (r : Nat → Nat) (g b : Nat) (S : Mk) (hf : S.fit) (d : Dd) (hs : d.L.n ≤ 20 ∧ d.m ≤ 5) (B : Nat) (w : World) (h : G w O g S) (m : Mdl r w b S) (dis : ∀ k, O k → r k = 0) (hd : d.At B w) (hB : B ≤ w.heap.size) (oB : ∀ k, O k → B ≤ k) (rB : ∀ k, r k ≠ 0 → B ≤ k) (hp : pickN d.what 9 = 6) :
    Calls Try.prog 12 #[.pointer (some ⟨g, 0, none⟩), .pointer (some ⟨b, 0, none⟩), d.val] w fun e w' => e = .returned (.bool true) ∧ DoEnd G O r w w' g b (S.deed d) := by
  have hG' : Hid (GadC G) := hG
  have I0 : Hid (DoIn G w O r (w.alloc (.cells #[.int .i64 d.what, .int .i64 d.a, .int .i64 d.b, .int .i64 d.n, .int .u64 (d.k : Nat), .slice d.L.ad d.L.n d.L.c, .slice d.ad d.m d.c] 38)) O r g b w.heap.size (S) (S) d) := DoIn.start hG h m dis d _
  have hat : Hid (∀ W O1 r1 T1 T2, DoIn G w O r W O1 r1 g b w.heap.size T1 T2 d → d.At W.heap.size W) := fun W O1 r1 T1 T2 I => I.at_ hd hB oB rB
  have fit' : Hid S.fit := hf
  have hda : Hid (-9223372036854775808 ≤ d.a ∧ d.a < 9223372036854775808) := hd.a
  have hdb : Hid (-9223372036854775808 ≤ d.b ∧ d.b < 9223372036854775808) := hd.b
  have hdn : Hid (-9223372036854775808 ≤ d.n ∧ d.n < 9223372036854775808) := hd.n
  have hdk : Hid (d.k < 18446744073709551616) := hd.k
  have hdL : Hid d.L.Ok := hd.L
  have hdV : Hid (∀ i, -9223372036854775808 ≤ d.V i ∧ d.V i < 9223372036854775808) := hd.V
  have hs' : Hid (d.L.n ≤ 20 ∧ d.m ≤ 5) := hs
  have hdeed : Hid (S.deed d = S.same (S.is d.a) (S.is d.b)) := by show S.deed d = _; unfold Mk.deed; simp only [hp]
  have cP := fun w => mpickW d.what hd.what.1 hd.what.2 w
  rw [hp, (show (((6 : Nat) : Int)) = 6 from rfl)] at cP
  have cI := fun v => misW r b S hf.1 v _ I0.out.m
  have laa : S.is d.a < S.n := Mk.is_lt hf.1 _
  have lab : S.is d.b < S.n := Mk.is_lt hf.1 _
  have lan : S.is d.n < S.n := Mk.is_lt hf.1 _
  have hn3 := hf.2.1
  have hm3 := hf.2.2
  clear h m dis hd hB oB rB hp hG hf hs
  unfold Dd.val Lst.val
  go_enter Try.func12, Try.ntmps12
  go_upto_region 1 with (fail)
  have e := I0.out.x.cells
  have z1 := I0.out.x.lt
  generalize (w.alloc (.cells #[.int .i64 d.what, .int .i64 d.a, .int .i64 d.b, .int .i64 d.n, .int .u64 (d.k : Nat), .slice d.L.ad d.L.n d.L.c, .slice d.ad d.m d.c] 38)) = W1 at *
  have ⟨e0, e1, e2, e3, e4, e5, e6⟩ := e
  clear e
  go_upto_region 35 with (first | (go_at_call 14; (with_reducible refine (cI _).mono ?_); rintro e w0 ⟨rfl, rfl⟩) | (go_at_call 18; (with_reducible refine (cP _).mono ?_); rintro e w0 ⟨rfl, rfl⟩))
  clear cP cI
  have cA := hG'.out.same W1 O g S I0.out.g fit'.out d.a d.b hda.out hdb.out
  have cJ : Hid (∀ v, v < 9223372036854775808 → ∀ W, Calls Try.prog 33 #[.int .i64 (v : Nat)] W fun e w' => ∃ L : Lst, e = .returned (.slice L.ad L.n L.c) ∧ L.Ok ∧ L.n = 1 ∧ LEq L (just v) ∧ L.At w'.heap.size w' ∧ Below W.heap.size W w' ∧ ∀ k, L.val.ownBlock = some k → W.heap.size ≤ k) := fun v hv W => mjustF v hv W
  have cL : Hid (∀ x y, x < 9223372036854775808 → y < 9223372036854775808 → ∀ W, Calls Try.prog 39 #[.int .i64 (x : Nat), .int .i64 (y : Nat)] W fun e w' => ∃ L : Lst, e = .returned (.slice L.ad L.n L.c) ∧ L.Ok ∧ L.n = 2 ∧ LEq L (less x y) ∧ L.At w'.heap.size w' ∧ Below W.heap.size W w') := fun x y hx hy W => mlessW x y hx hy W
  have lessab := cL.out (S.is d.a) (S.is d.b) (by omega) (by omega)
  have j0 := cJ.out 0 (by decide)
  rw [(show (((0 : Nat) : Int)) = 0 from rfl)] at j0
  generalize S.is d.a = va at *
  generalize S.is d.b = vb at *
  go_upto_region 35 with (fail)
  go_wp2_with (first | (go_at_call 41; (with_reducible refine cA.mono ?_); rintro e w3 ⟨rfl, a3⟩; obtain ⟨P3, J3, k3⟩ := I0.out.gafter hG'.out a3; have I3 : Hid (DoIn G w O r w3 P3 r g b w.heap.size (S.same va vb) (S) d) := J3; clear a3 J3 k3) | (go_at_call 39; (with_reducible refine (lessab w3).mono ?_); rintro e w4 ⟨L1, rfl, o1, n1, q1, t1, b1⟩; have F1 : Hid (L1.Ok ∧ L1.n ≤ 1000 ∧ LEq L1 (less va vb) ∧ L1.At w4.heap.size w4 ∧ Below w3.heap.size w3 w4) := ⟨o1, (by omega), q1, t1, b1⟩; clear o1 n1 q1 t1 b1) | (go_at_call 33; (with_reducible refine (j0 w4).mono ?_); rintro e w5 ⟨L2, rfl, o2, n2, q2, t2, b2, k2⟩; have F2 : Hid (L2.Ok ∧ L2.n ≤ 1000 ∧ LEq L2 (just 0) ∧ L2.At w5.heap.size w5 ∧ Below w4.heap.size w4 w5) := ⟨o2, (by omega), q2, t2, b2⟩; clear o2 n2 q2 t2 b2 k2; have I5 : Hid (DoIn G w O r w5 P3 r g b w.heap.size (S.same va vb) (S) d) := (I3.out.below hG'.out F1.out.2.2.2.2).below hG'.out F2.out.2.2.2.2; have cM : Calls Try.prog 40 #[.pointer (some ⟨b, 0, none⟩), .slice L1.ad L1.n L1.c, .slice L2.ad L2.n L2.c, .slice none 0 0] w5 fun e w' => e = .returned (.tuple #[]) ∧ After r w5 w' b (S.same va vb) := (mrowW r b S (by omega) L1 L2 ⟨none, 0, 0, fun _ => 0, fun _ => 0⟩ F1.out.1 F2.out.1 ⟨fun _ => (by show (-9223372036854775808 : Int) ≤ 0; decide), fun _ => (by show (0 : Int) < 9223372036854775808; decide), fun _ => (by show 0 < 18446744073709551616; decide), Nat.le_refl _, (by show 0 ≤ 9223372036854775807; decide)⟩ F1.out.2.1 F2.out.2.1 (by show 0 ≤ 1000; decide) (less va vb) (just 0) (lstOf []) F1.out.2.2.1 F2.out.2.2.1 ⟨rfl, fun i hi => absurd hi (Nat.not_lt_zero _)⟩ w5 I5.out.m (TrmsAt.to F1.out.2.2.2.1 F2.out.2.2.2.2 (Nat.le_refl _)) F2.out.2.2.2.1 (Or.inl rfl))) | (go_at_call 40; (with_reducible refine cM.mono ?_); rintro e w6 ⟨rfl, a6⟩; obtain ⟨s6, J6, q6, k6⟩ := I5.out.after hG'.out a6; have I6 : Hid (DoIn G w O r w6 P3 s6 g b w.heap.size (S.same va vb) (S.same va vb) d) := J6))
  have hend : Hid (DoEnd G O r w w6 g b (S.deed d)) := by
    show DoEnd G O r w w6 g b (S.deed d)
    rw [hdeed.out]
    exact I6.out.finish
  (try go_ret)
  exact ⟨rfl, hend.out⟩
end Go.Proofs.Ytdbolfmmlmoiaaa
