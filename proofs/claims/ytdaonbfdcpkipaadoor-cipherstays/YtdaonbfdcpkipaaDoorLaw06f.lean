/-
  CipherStays, walked.
-/
import Derived.Test.YtdaonbfdcpkipaaDoorJ10
import Derived.Test.YtdaonbfdcpkipaaDoorJ2
namespace Go.Proofs.YtdaonbfdcpkipaaDoor
open Go.RowKit Go.Proofs
set_option linter.unusedVariables false
set_option linter.unusedSimpArgs false
attribute [local go_sem ↓] Go.wp_at_zero Go.wp_at_succ

theorem wrap_next (v : Nat) : IntKind.u8.wrap ((v : Int) + 1) = (((v + 1) % 256 : Nat) : Int) := by rw [IntKind.wrap_u8]; omega

set_option maxHeartbeats 2000000 in
set_option maxRecDepth 20000 in
theorem stays_no (a b a1 a2 : Option Addr) (n m c d n1 c1 n2 c2 : Nat) (h : ¬ (n = 32 ∧ m = 12)) (w : World)
    (c0 : Calls Tryd.prog 9 #[] w fun e w' => e = .returned (.bool true) ∧ Below w.heap.size w w') :
    Calls Tryd.prog 8 #[.slice a n c, .slice b m d, .slice a1 n1 c1, .slice a2 n2 c2] w fun e w' => e = .returned (.bool true) ∧ Below w.heap.size w w' := by
  have cf := fitsNo a b n m c d h
  clear h
  go_enter Tryd.func8, Tryd.ntmps8
  go_wp2_with (first | (go_at_call 9; with_reducible refine c0.mono ?_; rintro e W0 ⟨rfl, b0⟩) | (go_at_call 11; with_reducible refine (cf _).mono ?_; rintro e W2 ⟨rfl, rfl⟩))
  go_ret
  exact ⟨rfl, b0⟩
set_option maxHeartbeats 2000000 in
set_option maxRecDepth 20000 in
theorem stays_long1 (a b a1 a2 : Option Addr) (n m c d n1 c1 n2 c2 : Nat) (hn : n = 32) (hm : m = 12) (h : 500 < n1) (w : World)
    (c0 : Calls Tryd.prog 9 #[] w fun e w' => e = .returned (.bool true) ∧ Below w.heap.size w w') :
    Calls Tryd.prog 8 #[.slice a n c, .slice b m d, .slice a1 n1 c1, .slice a2 n2 c2] w fun e w' => e = .returned (.bool true) ∧ Below w.heap.size w w' := by
  subst hn hm
  have cf := fitsYes a b c d
  have g1 : (500 : Int) < (n1 : Int) := by omega
  clear h
  go_enter Tryd.func8, Tryd.ntmps8
  go_wp2_with (first | (go_at_call 9; with_reducible refine c0.mono ?_; rintro e W0 ⟨rfl, b0⟩) | (go_at_call 11; with_reducible refine (cf _).mono ?_; rintro e W2 ⟨rfl, rfl⟩))
  go_ret
  exact ⟨rfl, b0⟩
set_option maxHeartbeats 2000000 in
set_option maxRecDepth 20000 in
theorem stays_long2 (a b a1 a2 : Option Addr) (n m c d n1 c1 n2 c2 : Nat) (hn : n = 32) (hm : m = 12) (h : n1 ≤ 500) (h' : 500 < n2) (w : World)
    (c0 : Calls Tryd.prog 9 #[] w fun e w' => e = .returned (.bool true) ∧ Below w.heap.size w w') :
    Calls Tryd.prog 8 #[.slice a n c, .slice b m d, .slice a1 n1 c1, .slice a2 n2 c2] w fun e w' => e = .returned (.bool true) ∧ Below w.heap.size w w' := by
  subst hn hm
  have cf := fitsYes a b c d
  have g1 : ¬ (500 : Int) < (n1 : Int) := by omega
  have g2 : (500 : Int) < (n2 : Int) := by omega
  clear h h'
  go_enter Tryd.func8, Tryd.ntmps8
  go_wp2_with (first | (go_at_call 9; with_reducible refine c0.mono ?_; rintro e W0 ⟨rfl, b0⟩) | (go_at_call 11; with_reducible refine (cf _).mono ?_; rintro e W2 ⟨rfl, rfl⟩))
  go_ret
  exact ⟨rfl, b0⟩
set_option maxHeartbeats 8000000 in
set_option maxRecDepth 20000 in
theorem stays_yes (kb ko kc nb no nc c1 n1 c2 n2 : Nat) (hkc : 32 ≤ kc) (hnc : 12 ≤ nc) (hn1 : n1 ≤ 500) (hn2 : n2 ≤ 500) (zk zn z1 z2 : Nat → Nat) (hzk : ∀ i, zk i < 256) (hzn : ∀ i, zn i < 256) (hz1 : ∀ i, z1 i < 256) (hz2 : ∀ i, z2 i < 256) (a1 a2 : Option Addr) (w : World) (hT : Tabs w) (hK : Bys w kb ko 32 zk) (hNn : Bys w nb no 12 zn) (hS1 : Src w a1 n1 z1) (hS2 : Src w a2 n2 z2)
    (c0 : Calls Tryd.prog 9 #[] w fun e w' => e = .returned (.bool true) ∧ Below w.heap.size w w') :
    Calls Tryd.prog 8 #[.slice (some ⟨kb, ko, none⟩) 32 kc, .slice (some ⟨nb, no, none⟩) 12 nc, .slice a1 n1 c1, .slice a2 n2 c2] w fun e w' => e = .returned (.bool true) ∧ Below w.heap.size w w' := by
  have hSk : Hid (Src w (some ⟨kb, ko, none⟩) 32 zk) := Or.inr ⟨kb, ko, rfl, hK⟩
  have hSn : Hid (Src w (some ⟨nb, no, none⟩) 12 zn) := Or.inr ⟨nb, no, rfl, hNn⟩
  have hS1' : Hid (Src w a1 n1 z1) := hS1
  have hS2' : Hid (Src w a2 n2 z2) := hS2
  have cf := fitsYes (some ⟨kb, ko, none⟩) (some ⟨nb, no, none⟩) kc nc
  have cs : ∀ (W : World) (gk ek gn en gd ed gt et : Nat), Below w.heap.size w W → 32 ≤ ek → 12 ≤ en → Bys W gk 0 32 zk → Bys W gn 0 12 zn → Bys W gd 0 n1 z1 → Bys W gt 0 n2 z2 → Calls Tryd.prog 15 #[.slice (some ⟨gk, 0, none⟩) 32 ek, .slice (some ⟨gn, 0, none⟩) 12 en, .slice (some ⟨gd, 0, none⟩) n1 ed, .slice (some ⟨gt, 0, none⟩) n2 et] W fun e w' => ∃ g, e = .returned (.tuple #[.slice (some ⟨g, 0, none⟩) (n2 + 16) (n2 + 16), .nilIface]) ∧ W.heap.size ≤ g ∧ Arr w' .u8 g (n2 + 16) (Ob.sealX zk zn z1 n1 z2 n2) ∧ Below W.heap.size W w' := fun W gk ek gn en gd ed gt et hb h1 h2 h3 h4 h5 h6 =>
    sealW gk 0 ek gn 0 en ed n1 et n2 h1 h2 zk zn z1 z2 hzk hzn hz1 hz2 (by omega) (by omega) (some ⟨gd, 0, none⟩) (some ⟨gt, 0, none⟩) W (hT.on hb) h3 h4 (Or.inr ⟨gd, 0, rfl, h5⟩) (Or.inr ⟨gt, 0, rfl, h6⟩)
  have cs2 := fun (W : World) (hb : Below w.heap.size w W) => sealW kb ko kc nb no nc c1 n1 c2 n2 hkc hnc zk zn z1 z2 hzk hzn hz1 hz2 (by omega) (by omega) a1 a2 W (hT.on hb) (hK.below hb hK.lt) (hNn.below hb hNn.lt) (hS1.below hb) (hS2.below hb)
  have co : ∀ (W : World) (gk ek gn en gd ed g : Nat), Below w.heap.size w W → 32 ≤ ek → 12 ≤ en → Bys W gk 0 32 zk → Bys W gn 0 12 zn → Bys W gd 0 n1 z1 → Arr W .u8 g (n2 + 16) (Ob.sealX zk zn z1 n1 z2 n2) → Calls Tryd.prog 18 #[.slice (some ⟨gk, 0, none⟩) 32 ek, .slice (some ⟨gn, 0, none⟩) 12 en, .slice (some ⟨gd, 0, none⟩) n1 ed, .slice (some ⟨g, 0, none⟩) (n2 + 16) (n2 + 16)] W fun e w' => ∃ g f, e = .returned (.tuple #[.slice (some ⟨g, 0, none⟩) n2 (n2 + 16), .nilIface]) ∧ W.heap.size ≤ g ∧ Arr w' .u8 g (n2 + 16) f ∧ Below W.heap.size W w' := fun W gk ek gn en gd ed g hb h1 h2 h3 h4 h5 ht =>
    (open_core gk 0 ek gn 0 en ed n1 g 0 (n2 + 16) n2 h1 h2 (Nat.le_refl _) zk zn z1 (Ob.sealX zk zn z1 n1 z2 n2) hzk hzn hz1 (sealX_lt hz2) (by omega) (by omega) (some ⟨gd, 0, none⟩) W (hT.on hb) h3 h4 (Or.inr ⟨gd, 0, rfl, h5⟩) ht.bys8).mono fun e w' h => by
      rcases h with ⟨_, g', f, he, lg, ht', hf, hB⟩ | ⟨hno, _⟩
      · exact ⟨g', f, he, lg, ht', hB⟩
      · exact absurd (opens_sealed zk zn z1 z2 n1 n2) hno
  have g1 : ¬ (500 : Int) < (n1 : Int) := by omega
  have g2 : ¬ (500 : Int) < (n2 : Int) := by omega
  obtain ⟨G, hG⟩ : ∃ D, Hid (Ob.sealX zk zn z1 n1 z2 n2 = D) := ⟨_, rfl⟩
  obtain ⟨m, hm⟩ : ∃ m, Hid (n2 + 16 = m) := ⟨_, rfl⟩
  rw [hG.out, hm.out] at cs cs2 co
  have hmb : m ≤ 1000 := by have := hm.out; omega
  clear hG hT hK hNn hS1 hS2 hzk hzn hz1 hz2
  go_enter Tryd.func8, Tryd.ntmps8
  go_upto_region 5 with (first | (go_at_call 9; with_reducible refine c0.mono ?_; rintro e W0 ⟨rfl, hB0⟩) | (go_at_call 11; with_reducible refine (cf _).mono ?_; rintro e W9 ⟨rfl, rfl⟩))
  clear cf c0
  have hown1 : (W0.alloc (.cells #[] 5)).ownsRow W0.heap.size 5 1 (.slice (some ⟨W0.heap.size, 0, none⟩) 0 0) 0 [] := World.ownsRow_made W0 #[] 0 (Nat.le_refl _) (by decide) rfl
  have hBa1 : Below w.heap.size w (W0.alloc (.cells #[] 5)) := hB0.alloc hB0.size _
  have hSa1 := hSk.out.below hBa1
  go_upto_region 6 with (at_builtin; refine wpList_copyB rfl _ _ rfl W0.heap.size _ rfl hown1 (by simp) (some ⟨kb, ko, none⟩) 32 kc zk rfl hSa1 (by omega) ?_; intro k1 e1 W1 ow1 ob1)
  have hB1 : Below w.heap.size w W1 := below_via ob1 hBa1 hB0.size
  have step1 : Below W0.heap.size W0 W1 := ((Below.refl W0.heap.size W0).alloc (Nat.le_refl _) _).trans ob1
  have lk1 := (ow1.lt k1 rfl).2
  have lb1 := (ow1.lt k1 rfl).1
  have yk1 := bys_of_row ow1
  have ck1 := (cap_of_row ow1).1
  clear hown1 hBa1 hSa1 ow1 ob1
  have hown2 : (W1.alloc (.cells #[] 5)).ownsRow W1.heap.size 5 1 (.slice (some ⟨W1.heap.size, 0, none⟩) 0 0) 0 [] := World.ownsRow_made W1 #[] 0 (Nat.le_refl _) (by decide) rfl
  have hBa2 : Below w.heap.size w (W1.alloc (.cells #[] 5)) := hB1.alloc hB1.size _
  have hSa2 := hSn.out.below hBa2
  go_upto_region 7 with (at_builtin; refine wpList_copyB rfl _ _ rfl W1.heap.size _ rfl hown2 (by simp) (some ⟨nb, no, none⟩) 12 nc zn rfl hSa2 (by omega) ?_; intro k2 e2 W2 ow2 ob2)
  have hB2 : Below w.heap.size w W2 := below_via ob2 hBa2 hB1.size
  have step2 : Below W1.heap.size W1 W2 := ((Below.refl W1.heap.size W1).alloc (Nat.le_refl _) _).trans ob2
  have lk2 := (ow2.lt k2 rfl).2
  have lb2 := (ow2.lt k2 rfl).1
  have yk2 := bys_of_row ow2
  have ck2 := (cap_of_row ow2).1
  clear hown2 hBa2 hSa2 ow2 ob2
  have hown3 : (W2.alloc (.cells #[] 5)).ownsRow W2.heap.size 5 1 (.slice (some ⟨W2.heap.size, 0, none⟩) 0 0) 0 [] := World.ownsRow_made W2 #[] 0 (Nat.le_refl _) (by decide) rfl
  have hBa3 : Below w.heap.size w (W2.alloc (.cells #[] 5)) := hB2.alloc hB2.size _
  have hSa3 := hS1'.out.below hBa3
  go_upto_region 8 with (at_builtin; refine wpList_copyB rfl _ _ rfl W2.heap.size _ rfl hown3 (by simp) a1 n1 c1 z1 rfl hSa3 (by omega) ?_; intro k3 e3 W3 ow3 ob3)
  have hB3 : Below w.heap.size w W3 := below_via ob3 hBa3 hB2.size
  have step3 : Below W2.heap.size W2 W3 := ((Below.refl W2.heap.size W2).alloc (Nat.le_refl _) _).trans ob3
  have lk3 := (ow3.lt k3 rfl).2
  have lb3 := (ow3.lt k3 rfl).1
  have yk3 := bys_of_row ow3
  have ck3 := (cap_of_row ow3).1
  clear hown3 hBa3 hSa3 ow3 ob3
  have hown4 : (W3.alloc (.cells #[] 5)).ownsRow W3.heap.size 5 1 (.slice (some ⟨W3.heap.size, 0, none⟩) 0 0) 0 [] := World.ownsRow_made W3 #[] 0 (Nat.le_refl _) (by decide) rfl
  have hBa4 : Below w.heap.size w (W3.alloc (.cells #[] 5)) := hB3.alloc hB3.size _
  have hSa4 := hS2'.out.below hBa4
  go_upto_region 9 with (at_builtin; refine wpList_copyB rfl _ _ rfl W3.heap.size _ rfl hown4 (by simp) a2 n2 c2 z2 rfl hSa4 (by omega) ?_; intro k4 e4 W4 ow4 ob4)
  have hB4 : Below w.heap.size w W4 := below_via ob4 hBa4 hB3.size
  have step4 : Below W3.heap.size W3 W4 := ((Below.refl W3.heap.size W3).alloc (Nat.le_refl _) _).trans ob4
  have lk4 := (ow4.lt k4 rfl).2
  have lb4 := (ow4.lt k4 rfl).1
  have yt4 := bys_of_row ow4
  have ck4 := (cap_of_row ow4).1
  clear hown4 hBa4 hSa4 ow4 ob4
  have yk4 : Bys W4 k1 0 32 zk := ((yk1.below step2 lk1).below step3 (yk1.below step2 lk1).lt).below step4 ((yk1.below step2 lk1).below step3 (yk1.below step2 lk1).lt).lt
  have yn4 : Bys W4 k2 0 12 zn := (yk2.below step3 lk2).below step4 (yk2.below step3 lk2).lt
  have yd4 : Bys W4 k3 0 n1 z1 := yk3.below step4 lk3
  have cs1 := cs W4 k1 e1 k2 e2 k3 e3 k4 e4 hB4 ck1 ck2 yk4 yn4 yd4 yt4
  have lt4 : k4 < W4.heap.size := yt4.lt
  clear cs
  go_upto_region 10 with (go_at_call 15; with_reducible refine cs1.mono ?_; rintro e W5 ⟨gs, rfl, lgs, ts, b5⟩)
  have hB5 : Below w.heap.size w W5 := below_via b5 hB4 hB4.size
  have yk5 := yk4.below b5 yk4.lt
  have yn5 := yn4.below b5 yn4.lt
  have yd5 := yd4.below b5 yd4.lt
  have yt5 := yt4.below b5 yt4.lt
  have co1 := co W5 k1 e1 k2 e2 k3 e3 gs hB5 ck1 ck2 yk5 yn5 yd5 ts
  have r1 := bys_str gs 0 m m G W5 ts.bys8
  have r2 := bys_str k1 0 32 e1 zk W5 yk5
  have r3 := src_str (hSk.out.below hB5) kc
  have r4 := bys_str k2 0 12 e2 zn W5 yn5
  have r5 := src_str (hSn.out.below hB5) nc
  have r6 := bys_str k3 0 n1 e3 z1 W5 yd5
  have r7 := src_str (hS1'.out.below hB5) c1
  have r8 := bys_str k4 0 n2 e4 z2 W5 yt5
  have r9 := src_str (hS2'.out.below hB5) c2
  obtain ⟨SG, hSG⟩ : ∃ s, Hid (strOfNums (nums G m) = s) := ⟨_, rfl⟩
  rw [hSG.out] at r1
  obtain ⟨ST, hST⟩ : ∃ s, Hid (strOfNums (nums z2 n2) = s) := ⟨_, rfl⟩
  rw [hST.out] at r8 r9
  generalize strOfNums (nums zk 32) = SK at *
  generalize strOfNums (nums zn 12) = SN at *
  generalize strOfNums (nums z1 n1) = SD at *
  have lks : k4 < gs := by omega
  have lws : w.heap.size ≤ gs := Nat.le_trans hB4.size lgs
  clear co cs1 yk1 yk2 yk3 yk4 yn4 yd4 yt4 yk5 yn5 yd5 b5 step1 step2 step3 step4 lk1 lk2 lk3 lk4 lb1 lb2 lb3 lb4 ck1 ck2 ck3 ck4 hB0 hB1 hB2 hB3 hB4 lgs lt4
  go_upto_region 12 with (fail)
  clear r2 r3 r4 r5 r6 r7 r8 r9 r1
  go_upto_region 13 with (go_at_call 18; with_reducible refine co1.mono ?_; rintro e W6 ⟨gu, f6, rfl, lgu, tu, b6⟩)
  have hB6 : Below w.heap.size w W6 := below_via b6 hB5 hB5.size
  have lsu : gs < gu := Nat.lt_of_lt_of_le ts.lt lgu
  have ts6 := ts.below b6 ts.lt
  have yt6 : Hid (Bys W6 k4 0 n2 z2) := yt5.below b6 yt5.lt
  have r1 := bys_str gs 0 m m G W6 ts6.bys8
  rw [hSG.out] at r1
  have as6 : Hid (∃ v, Arr W6 .u8 gs m v) := ⟨G, ts6⟩
  have au6 : Hid (Arr W6 .u8 gu m f6) := tu
  have lwu : w.heap.size ≤ gu := by omega
  clear co1 ts ts6 tu b6 yt5 hB5 lgu
  go_upto_region 14 with (fail)
  clear r1
  go_wp2
  go_loopw [21] (fun si wr => ∃ k : Nat, k ≤ m ∧ si = .int .i64 k ∧ Hid (∃ v, Arr wr .u8 gs m v) ∧ Hid (Arr wr .u8 gu m f6) ∧ Hid (Bys wr k4 0 n2 z2) ∧ Below w.heap.size w wr) (fun si _ => m - (intOf si).toNat)
  case atStart => exact ⟨0, by omega, rfl, as6, au6, yt6, hB6⟩
  case round =>
    clear as6 au6 yt6 hB6
    obtain ⟨k, hk, rfl, ⟨v, hv⟩, hu, hy, rB⟩ := hrel
    by_cases hlt : k < m
    · have hc := hv.c k hlt
      have hf := hv.f k hlt
      have i0 : (k : Int) < (m : Int) := by omega
      have i1 : (0 : Int) ≤ (k : Int) := by omega
      have hw := wrap_next (v k)
      obtain ⟨x, hx⟩ : ∃ x, Hid (v k = x) := ⟨_, rfl⟩
      rw [hx.out] at hc hw
      obtain ⟨x', hx'⟩ : ∃ x', Hid ((x + 1) % 256 = x') := ⟨_, rfl⟩
      rw [hx'.out] at hw
      have hv' : Hid (∃ v', Arr (wr.setCell ⟨gs, k, none⟩ (.int .u8 (x' : Nat))) .u8 gs m v') := ⟨_, hv.set (i := k) (z := x') hlt⟩
      clear hv
      go_wp2
      go_roundw
      case rel => exact ⟨k + 1, by omega, by go_num, hv', hu.out.far (by omega) _ _, hy.out.far (by omega) _ _, rB.setCell lws _⟩
      case measure => (simp only [intOf, Int.toNat_natCast]; omega)
    · obtain rfl : k = m := by omega
      have hu' : Hid (∃ v', Arr wr .u8 gu k v') := ⟨_, hu.out⟩
      clear hv hu
      have lnm : n2 ≤ k := by have := hm.out; omega
      go_wp2
      go_loopw [22] (fun si wr => ∃ j : Nat, j ≤ n2 ∧ si = .int .i64 j ∧ Hid (∃ v, Arr wr .u8 gu k v) ∧ Hid (Bys wr k4 0 n2 z2) ∧ Below w.heap.size w wr) (fun si _ => n2 - (intOf si).toNat)
      case atStart => exact ⟨0, by omega, rfl, hu', hy, rB⟩
      case round =>
        clear hu' hy rB
        obtain ⟨j, hj, rfl, ⟨v, hv⟩, hy, rB⟩ := hrel
        by_cases hlt2 : j < n2
        · have hc := hv.c j (by omega)
          have hf := hv.f j (by omega)
          have i0 : (j : Int) < (n2 : Int) := by omega
          have i1 : (0 : Int) ≤ (j : Int) := by omega
          have hw := wrap_next (v j)
          obtain ⟨x, hx⟩ : ∃ x, Hid (v j = x) := ⟨_, rfl⟩
          rw [hx.out] at hc hw
          obtain ⟨x', hx'⟩ : ∃ x', Hid ((x + 1) % 256 = x') := ⟨_, rfl⟩
          rw [hx'.out] at hw
          have hv' : Hid (∃ v', Arr (wr.setCell ⟨gu, j, none⟩ (.int .u8 (x' : Nat))) .u8 gu k v') := ⟨_, hv.set (i := j) (z := x') (by omega)⟩
          clear hv
          go_wp2
          go_roundw
          case rel => exact ⟨j + 1, by omega, by go_num, hv', hy.out.far (by omega) _ _, rB.setCell lwu _⟩
          case measure => (simp only [intOf, Int.toNat_natCast]; omega)
        · obtain rfl : j = n2 := by omega
          have c3 := cs2 wr rB
          go_upto_region 23 with (go_at_call 15; with_reducible refine c3.mono ?_; rintro e W7 ⟨gv, rfl, lgv, tv, b7⟩)
          have hB7 : Below w.heap.size w W7 := below_via b7 rB rB.size
          have r1 := bys_str gv 0 k k G W7 tv.bys8
          rw [hSG.out] at r1
          have r8 := bys_str k4 0 j e4 z2 W7 (hy.out.below b7 hy.out.lt)
          have r9 := src_str (hS2'.out.below hB7) c2
          rw [hST.out] at r8 r9
          clear c3 cs2 tv b7 hv hy rB
          go_wp2
          go_ret
          exact ⟨rfl, hB7⟩

theorem cipherStays_walk (a : Option Addr) (n c : Nat) (zs : List Int) (b : Option Addr) (m d : Nat) (ys : List Int) (a1 : Option Addr) (n1 c1 : Nat) (zs1 : List Int) (a2 : Option Addr) (n2 c2 : Nat) (zs2 : List Int) (w : World) (h : IsRow .u8 w a n c zs) (h2 : IsRow .u8 w b m d ys) (h3 : IsRow .u8 w a1 n1 c1 zs1) (h4 : IsRow .u8 w a2 n2 c2 zs2) (hT : Tabs w) :
    Calls Tryd.prog 8 #[.slice a n c, .slice b m d, .slice a1 n1 c1, .slice a2 n2 c2] w fun e w' => e = .returned (.bool true) ∧ Below w.heap.size w w' := by
  obtain ⟨z, hz, hS, g1, _⟩ := src_of_isRow h
  obtain ⟨yn, hyn, hS2, g2, _⟩ := src_of_isRow h2
  obtain ⟨z1, hz1, hS3, _, _⟩ := src_of_isRow h3
  obtain ⟨z2, hz2, hS4, g4, _⟩ := src_of_isRow h4
  have hu := upW w hT
  by_cases hok : n = 32 ∧ m = 12
  · by_cases hl1 : 500 < n1
    · exact stays_long1 a b a1 a2 n m c d n1 c1 n2 c2 hok.1 hok.2 hl1 w hu
    · by_cases hl2 : 500 < n2
      · exact stays_long2 a b a1 a2 n m c d n1 c1 n2 c2 hok.1 hok.2 (by omega) hl2 w hu
      · obtain ⟨rfl, rfl⟩ := hok
        obtain ⟨b1, o1, rfl, y1⟩ := hS.some (by decide)
        obtain ⟨b2, o2, rfl, y2⟩ := hS2.some (by decide)
        exact stays_yes b1 o1 c b2 o2 d c1 n1 c2 n2 g1 g2 (by omega) (by omega) z yn z1 z2 hz hyn hz1 hz2 a1 a2 w hT y1 y2 hS3 hS4 hu
  · exact stays_no a b a1 a2 n m c d n1 c1 n2 c2 hok w hu
end Go.Proofs.YtdaonbfdcpkipaaDoor
