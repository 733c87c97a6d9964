/-
  Joined texts: The walk of the statements' own way to play a deed on both makers (obollaw12.do): one of two chosen. Errors that are codes, compared. The walk of the statements' own way to play a deed on both makers (obollaw12.do): public variables, bits, hashes of lists. The walk of the statements' own way to play a deed on both makers (obollaw12.do), whatever the deed. The walk of layer 12's statement that a maker makes what the document says, through any script (GadgetPlays), over what package gadget's calls answer. What the statement that handed lists stay (layer 12) stands on: copies of integers, deeds with lists of one's own, memory that is scribbled over.
-/
import Derived.Test.YtdbolfmmlmoiaaaJ11
import Derived.Test.YtdbolfmmlmoiaaaJ1
import Derived.Test.YtdbolfmmlmoiaaaJ10

namespace Go.Proofs.Ytdbolfmmlmoiaaa
open Go.RowKit Go.Proofs
set_option linter.unusedVariables false
set_option linter.unusedSimpArgs false
attribute [local go_sem ↓] Go.wp_at_zero Go.wp_at_succ
set_option maxRecDepth 8000 in
set_option maxHeartbeats 16000000 in
theorem mdo5W {G : Mkr} (hG : GadC G) (O : Nat → Prop) (r : Nat → Nat) (g b : Nat) (S : Mk) (hf : S.fit) (d : Dd) (hs : d.L.n ≤ 20 ∧ d.m ≤ 5) (B : Nat) (w : World) (h : G w O g S) (m : Mdl r w b S) (dis : ∀ k, O k → r k = 0) (hd : d.At B w) (hB : B ≤ w.heap.size) (oB : ∀ k, O k → B ≤ k) (rB : ∀ k, r k ≠ 0 → B ≤ k) (hp : pickN d.what 9 = 5) :
    Calls Try.prog 12 #[.pointer (some ⟨g, 0, none⟩), .pointer (some ⟨b, 0, none⟩), d.val] w fun e w' => e = .returned (.bool true) ∧ DoEnd G O r w w' g b (S.deed d) := by
  have hG' : Hid (GadC G) := hG
  have I0 : Hid (DoIn G w O r (w.alloc (.cells #[.int .i64 d.what, .int .i64 d.a, .int .i64 d.b, .int .i64 d.n, .int .u64 (d.k : Nat), .slice d.L.ad d.L.n d.L.c, .slice d.ad d.m d.c] 38)) O r g b w.heap.size (S) (S) d) := DoIn.start hG h m dis d _
  have hat : Hid (∀ W O1 r1 T1 T2, DoIn G w O r W O1 r1 g b w.heap.size T1 T2 d → d.At W.heap.size W) := fun W O1 r1 T1 T2 I => I.at_ hd hB oB rB
  have fit' : Hid S.fit := hf
  have hda : Hid (-9223372036854775808 ≤ d.a ∧ d.a < 9223372036854775808) := hd.a
  have hdb : Hid (-9223372036854775808 ≤ d.b ∧ d.b < 9223372036854775808) := hd.b
  have hdn : Hid (-9223372036854775808 ≤ d.n ∧ d.n < 9223372036854775808) := hd.n
  have hdk : Hid (d.k < 18446744073709551616) := hd.k
  have hdL : Hid d.L.Ok := hd.L
  have hdV : Hid (∀ i, -9223372036854775808 ≤ d.V i ∧ d.V i < 9223372036854775808) := hd.V
  have hs' : Hid (d.L.n ≤ 20 ∧ d.m ≤ 5) := hs
  have hdeed : Hid (S.deed d = S.choose (S.is d.n) (S.is d.a) (S.is d.b)) := by show S.deed d = _; unfold Mk.deed; simp only [hp]
  have cP := fun w => mpickW d.what hd.what.1 hd.what.2 w
  rw [hp, (show (((5 : Nat) : Int)) = 5 from rfl)] at cP
  have cI := fun v => misW r b S hf.1 v _ I0.out.m
  have laa : S.is d.a < S.n := Mk.is_lt hf.1 _
  have lab : S.is d.b < S.n := Mk.is_lt hf.1 _
  have lan : S.is d.n < S.n := Mk.is_lt hf.1 _
  have hn3 := hf.2.1
  have hm3 := hf.2.2
  clear h m dis hd hB oB rB hp hG hf hs
  unfold Dd.val Lst.val
  go_enter Try.func12, Try.ntmps12
  go_upto_region 1 with (fail)
  have e := I0.out.x.cells
  have z1 := I0.out.x.lt
  generalize (w.alloc (.cells #[.int .i64 d.what, .int .i64 d.a, .int .i64 d.b, .int .i64 d.n, .int .u64 (d.k : Nat), .slice d.L.ad d.L.n d.L.c, .slice d.ad d.m d.c] 38)) = W1 at *
  have ⟨e0, e1, e2, e3, e4, e5, e6⟩ := e
  clear e
  go_upto_region 29 with (first | (go_at_call 14; (with_reducible refine (cI _).mono ?_); rintro e w0 ⟨rfl, rfl⟩) | (go_at_call 18; (with_reducible refine (cP _).mono ?_); rintro e w0 ⟨rfl, rfl⟩))
  clear cP cI
  have cA := hG'.out.choose W1 O g S I0.out.g fit'.out d.n d.a d.b hdn.out hda.out hdb.out
  have cJ : Hid (∀ v, v < 9223372036854775808 → ∀ W, Calls Try.prog 33 #[.int .i64 (v : Nat)] W fun e w' => ∃ L : Lst, e = .returned (.slice L.ad L.n L.c) ∧ L.Ok ∧ L.n = 1 ∧ LEq L (just v) ∧ L.At w'.heap.size w' ∧ Below W.heap.size W w' ∧ ∀ k, L.val.ownBlock = some k → W.heap.size ≤ k) := fun v hv W => mjustF v hv W
  have cL : Hid (∀ x y, x < 9223372036854775808 → y < 9223372036854775808 → ∀ W, Calls Try.prog 39 #[.int .i64 (x : Nat), .int .i64 (y : Nat)] W fun e w' => ∃ L : Lst, e = .returned (.slice L.ad L.n L.c) ∧ L.Ok ∧ L.n = 2 ∧ LEq L (less x y) ∧ L.At w'.heap.size w' ∧ Below W.heap.size W w') := fun x y hx hy W => mlessW x y hx hy W
  obtain ⟨tn, htn⟩ : ∃ tn, Hid (S.is d.n = tn) := ⟨_, rfl⟩
  obtain ⟨ta, hta⟩ : ∃ ta, Hid (S.is d.a = ta) := ⟨_, rfl⟩
  obtain ⟨tb, htb⟩ : ∃ tb, Hid (S.is d.b = tb) := ⟨_, rfl⟩
  rw [htn.out, hta.out, htb.out] at cA
  rw [htn.out] at lan
  rw [hta.out] at laa
  rw [htb.out] at lab
  rw [htn.out, hta.out, htb.out] at hdeed
  rw [htn.out, hta.out, htb.out]
  have lessab := cL.out ta tb (by omega) (by omega)
  have lessyb := cL.out S.n tb (by omega) (by omega)
  have jn := cJ.out tn (by omega)
  clear cJ cL htn hta htb
  go_upto_region 30 with (go_at_call 36; (with_reducible refine cA.mono ?_); rintro e w3 ⟨rfl, a3⟩; obtain ⟨P3, J3, k3⟩ := I0.out.gafter hG'.out a3; have I3 : Hid (DoIn G w O r w3 P3 r g b w.heap.size (S.choose tn ta tb) (S) d) := J3; clear a3 J3 k3)
  obtain ⟨vr, vv, R, t, _, _⟩ := I3.out.m
  obtain ⟨av, cv, rfl, hsrc⟩ := t.src
  rcases hsrc with hz | ⟨bv, ov, rfl, lv, wv⟩
  · omega
  have c3 := t.c3
  have blt := t.blt
  have v0 := wv.at_ tn lan
  have v1 := wv.at_ tb lab
  have hvw : ∀ i, S.v i < 18446744073709551616 := fun i => Nat.lt_trans (fit'.out.1.lt i) (by decide)
  have wv' : Hid (Wds w3 bv ov S.n S.v) := wv
  have hvl : Hid (valL (less ta tb) S.n S.v = Ob.toG (S.v ta) - Ob.toG (S.v tb)) := val_less laa lab
  obtain ⟨D, hD⟩ : ∃ D, Hid ((Ob.toG (S.v ta) - Ob.toG (S.v tb)).val = D) := ⟨_, rfl⟩
  have lD : D < 18446744073709551616 := by rw [← hD.out]; exact Ob.G_word _
  have cM := gmulW (S.v tn) D (hvw _) lD
  have eD : Hid (Ob.toG D = Ob.toG (S.v ta) - Ob.toG (S.v tb)) := by show _ = _; rw [← hD.out, Ob.toG_of_val]
  obtain ⟨z, hz⟩ : ∃ z, Hid ((Ob.toG (S.v tn) * Ob.toG D).val = z) := ⟨_, rfl⟩
  rw [hz.out] at cM
  have lz : z < 18446744073709551616 := by rw [← hz.out]; exact Ob.G_word _
  have ez : Hid (Ob.toG z = Ob.toG (S.v tn) * (Ob.toG (S.v ta) - Ob.toG (S.v tb))) := by show _ = _; rw [← hz.out, Ob.toG_of_val, eD.out]
  have cP := gplusW (S.v tb) z (hvw _) lz
  obtain ⟨y, hy⟩ : ∃ y, Hid ((Ob.toG (S.v tb) + Ob.toG z).val = y) := ⟨_, rfl⟩
  rw [hy.out] at cP
  have ly : y < 18446744073709551616 := by rw [← hy.out]; exact Ob.G_word _
  have ey : Hid (S.fresh (Ob.toG (S.v tb) + Ob.toG (S.v tn) * (Ob.toG (S.v ta) - Ob.toG (S.v tb))) = S.fresh (Ob.toG y)) := by show _ = _; rw [← hy.out, Ob.toG_of_val, ez.out]
  have hlan : (tn : Int) < (S.n : Int) := by omega
  have hlab : (tb : Int) < (S.n : Int) := by omega
  have hvw' : Hid (∀ i, S.v i < 18446744073709551616) := hvw
  clear t wv hvw
  go_region_held3 (fun w' : World => w'.cell? ⟨b, 3, none⟩ = some (.slice (some ⟨bv, ov, none⟩) S.n cv) ∧ w'.cell? ⟨bv, ov + tn, none⟩ = some (.int .u64 (S.v tn : Nat))) (go_keep)
    ((first | (go_at_call 39; (with_reducible refine (lessab w3.drew).mono ?_); rintro e w4 ⟨L1, rfl, o1, n1, q1, t1, b1⟩; have F1 : Hid (L1.Ok ∧ LEq L1 (less ta tb) ∧ L1.At w4.heap.size w4 ∧ Below w3.heap.size w3 w4) := ⟨o1, q1, t1, below_via b1 (Below.refl _ _).drew (Nat.le_refl _)⟩; have k4 := fun o => (bcell F1.out.2.2.2).1 b o blt; have k4' := fun o => (bcell F1.out.2.2.2).1 bv o lv; clear o1 n1 q1 t1 b1; have cV : Calls Try.prog 38 #[.slice L1.ad L1.n L1.c, .slice (some ⟨bv, ov, none⟩) S.n cv] w4 fun e w' => e = .returned (.int .u64 (D : Nat)) ∧ Below w4.heap.size w4 w' := (by have hr := vvalueW L1 F1.out.1 (some ⟨bv, ov, none⟩) S.n cv (by omega) S.v hvw'.out w4 F1.out.2.2.1 ((SrcW.of wv'.out).to F1.out.2.2.2 (Nat.le_refl _)); rw [F1.out.2.1.val, hvl.out, hD.out] at hr; exact hr)) | (go_at_call 38; (with_reducible refine cV.mono ?_); rintro e w5 ⟨rfl, b5⟩; have F5 : Hid (Below w3.heap.size w3 w5) := below_via b5 F1.out.2.2.2 F1.out.2.2.2.size; have k5 := fun o => (bcell F5.out).1 b o blt; have k5' := fun o => (bcell F5.out).1 bv o lv; clear b5) | (first | (go_at_call 37; first | (with_reducible refine (cM _).mono ?_; rintro e w' ⟨rfl, rfl⟩)))))
  have c3' : w5.cell? ⟨b, 3, none⟩ = some (.slice (some ⟨bv, ov, none⟩) S.n cv) := (k5 3).trans c3
  have v1' : w5.cell? ⟨bv, ov + tb, none⟩ = some (.int .u64 (S.v tb : Nat)) := (k5' _).trans v1
  have I5 : Hid (DoIn G w O r w5 P3 r g b w.heap.size (S.choose tn ta tb) (S) d) := I3.out.below hG'.out F5.out
  have cF := mfreshW r b S (by omega) y ly w5 I5.out.m
  have e2 : Hid (S.choose tn ta tb = (S.fresh (Ob.toG (S.v tb) + Ob.toG (S.v tn) * (Ob.toG (S.v ta) - Ob.toG (S.v tb)))).row (just tn) (less ta tb) (less S.n tb)) := rfl
  rw [ey.out] at e2
  clear k4 k4' k5 k5' c3 v0 v1 cV cM wv' hvl hD eD hz ez hy ey hvw' F1 F5
  go_upto_region 32 with (first | (first | (go_at_call 26; first | (with_reducible refine (cP _).mono ?_; rintro e w' ⟨rfl, rfl⟩))) | (go_at_call 29; (with_reducible refine cF.mono ?_); rintro e w6 ⟨rfl, a6⟩; obtain ⟨s6, J6, q6, k6⟩ := I5.out.after hG'.out a6; have I6 : Hid (DoIn G w O r w6 P3 s6 g b w.heap.size (S.choose tn ta tb) (S.fresh (Ob.toG y)) d) := J6; clear a6 J6 q6 k6))
  clear cF cP
  go_wp2_with (first | (go_at_call 33; (with_reducible refine (jn w6).mono ?_); rintro e w7 ⟨L3, rfl, o3, n3, q3, t3, b3, k3⟩; have F3 : Hid (L3.Ok ∧ L3.n ≤ 1000 ∧ LEq L3 (just tn) ∧ L3.At w7.heap.size w7 ∧ Below w6.heap.size w6 w7) := ⟨o3, (by omega), q3, t3, b3⟩; clear o3 n3 q3 t3 b3 k3) | (go_at_call 39; (with_reducible refine (lessab w7).mono ?_); rintro e w8 ⟨L4, rfl, o4, n4, q4, t4, b4⟩; have F4 : Hid (L4.Ok ∧ L4.n ≤ 1000 ∧ LEq L4 (less ta tb) ∧ L4.At w8.heap.size w8 ∧ Below w7.heap.size w7 w8) := ⟨o4, (by omega), q4, t4, b4⟩; clear o4 n4 q4 t4 b4) | (go_at_call 39; (with_reducible refine (lessyb w8).mono ?_); rintro e w9 ⟨L5, rfl, o5, n5, q5, t5, b5⟩; have F5 : Hid (L5.Ok ∧ L5.n ≤ 1000 ∧ LEq L5 (less S.n tb) ∧ L5.At w9.heap.size w9 ∧ Below w8.heap.size w8 w9) := ⟨o5, (by omega), q5, t5, b5⟩; clear o5 n5 q5 t5 b5; have I9 : Hid (DoIn G w O r w9 P3 s6 g b w.heap.size (S.choose tn ta tb) (S.fresh (Ob.toG y)) d) := ((I6.out.below hG'.out F3.out.2.2.2.2).below hG'.out F4.out.2.2.2.2).below hG'.out F5.out.2.2.2.2; have cR : Calls Try.prog 40 #[.pointer (some ⟨b, 0, none⟩), .slice L3.ad L3.n L3.c, .slice L4.ad L4.n L4.c, .slice L5.ad L5.n L5.c] w9 fun e w' => e = .returned (.tuple #[]) ∧ After s6 w9 w' b (S.choose tn ta tb) := (by rw [e2.out]; exact mrowW s6 b (S.fresh (Ob.toG y)) (show S.m ≤ 100000 by omega) L3 L4 L5 F3.out.1 F4.out.1 F5.out.1 F3.out.2.1 F4.out.2.1 F5.out.2.1 (just tn) (less ta tb) (less S.n tb) F3.out.2.2.1 F4.out.2.2.1 F5.out.2.2.1 w9 I9.out.m (TrmsAt.to (TrmsAt.to F3.out.2.2.2.1 F4.out.2.2.2.2 (Nat.le_refl _)) F5.out.2.2.2.2 (Nat.le_refl _)) (TrmsAt.to F4.out.2.2.2.1 F5.out.2.2.2.2 (Nat.le_refl _)) F5.out.2.2.2.1)) | (go_at_call 40; (with_reducible refine cR.mono ?_); rintro e wa ⟨rfl, aa⟩; obtain ⟨sa, Ja, qa, ka⟩ := I9.out.after hG'.out aa; have Ia : Hid (DoIn G w O r wa P3 sa g b w.heap.size (S.choose tn ta tb) (S.choose tn ta tb) d) := Ja))
  have hend : Hid (DoEnd G O r w wa g b (S.deed d)) := by
    show DoEnd G O r w wa g b (S.deed d)
    rw [hdeed.out]
    exact Ia.out.finish
  (try go_ret)
  exact ⟨rfl, hend.out⟩
end Go.Proofs.Ytdbolfmmlmoiaaa

namespace Go.Proofs.Ytdbolfmmlmoiaaa
open Go.RowKit Go.Proofs
set_option linter.unusedVariables false
set_option linter.unusedSimpArgs false

theorem codeInfo : ∃ i, Try.prog.info? 67 = some i ∧ i.comparable = true := by
  have h : (Try.prog.info? 67).map (·.comparable) = some true := by kernel_rfl
  cases hi : Try.prog.info? 67 with
  | none => rw [hi] at h; cases h
  | some i => rw [hi] at h; exact ⟨i, rfl, Option.some.inj h⟩
/-- Two errors that are codes are compared as their numbers. -/
theorem equalIn_code (d : Nat) (w : World) (a b : Int) : (Op.equalIn (d + 2) 50 (.iface 67 (.int .i64 a)) (.iface 67 (.int .i64 b))).run Try.prog w = .ok (a == b) w := by
  obtain ⟨i, hi, hc⟩ := codeInfo
  simp [Op.equalIn, run_underlying Try.underlying50, run_underlying Try.underlying67, typeInfo, hi, hc]
theorem eql_code (w : World) (a b : Int) : (binOp .eql 50 (.iface 67 (.int .i64 a)) (.iface 67 (.int .i64 b))).run Try.prog w = .ok (.bool (a == b)) w := by
  have h := equalIn_code (Op.maxDepth - 2) w a b
  have e : Op.maxDepth - 2 + 2 = Op.maxDepth := by decide +kernel
  rw [e] at h
  simp only [binOp]
  simp [Op.equal, h]
end Go.Proofs.Ytdbolfmmlmoiaaa

namespace Go.Proofs.Ytdbolfmmlmoiaaa
open Go.RowKit Go.Proofs
set_option linter.unusedVariables false
set_option linter.unusedSimpArgs false
attribute [local go_sem ↓] Go.wp_at_zero Go.wp_at_succ
set_option maxRecDepth 8000 in
set_option maxHeartbeats 16000000 in
theorem mdo0nW {G : Mkr} (hG : GadC G) (O : Nat → Prop) (r : Nat → Nat) (g b : Nat) (S : Mk) (hf : S.fit) (d : Dd) (hs : d.L.n ≤ 20 ∧ d.m ≤ 5) (B : Nat) (w : World) (h : G w O g S) (m : Mdl r w b S) (dis : ∀ k, O k → r k = 0) (hd : d.At B w) (hB : B ≤ w.heap.size) (oB : ∀ k, O k → B ≤ k) (rB : ∀ k, r k ≠ 0 → B ≤ k) (hp : pickN d.what 9 = 0) (hpub : S.pub + 1 < S.n) :
    Calls Try.prog 12 #[.pointer (some ⟨g, 0, none⟩), .pointer (some ⟨b, 0, none⟩), d.val] w fun e w' => e = .returned (.bool true) ∧ DoEnd G O r w w' g b (S.deed d) := by
  have hG' : Hid (GadC G) := hG
  have I0 : Hid (DoIn G w O r (w.alloc (.cells #[.int .i64 d.what, .int .i64 d.a, .int .i64 d.b, .int .i64 d.n, .int .u64 (d.k : Nat), .slice d.L.ad d.L.n d.L.c, .slice d.ad d.m d.c] 38)) O r g b w.heap.size (S) (S) d) := DoIn.start hG h m dis d _
  have hat : Hid (∀ W O1 r1 T1 T2, DoIn G w O r W O1 r1 g b w.heap.size T1 T2 d → d.At W.heap.size W) := fun W O1 r1 T1 T2 I => I.at_ hd hB oB rB
  have fit' : Hid S.fit := hf
  have hda : Hid (-9223372036854775808 ≤ d.a ∧ d.a < 9223372036854775808) := hd.a
  have hdb : Hid (-9223372036854775808 ≤ d.b ∧ d.b < 9223372036854775808) := hd.b
  have hdn : Hid (-9223372036854775808 ≤ d.n ∧ d.n < 9223372036854775808) := hd.n
  have hdk : Hid (d.k < 18446744073709551616) := hd.k
  have hdL : Hid d.L.Ok := hd.L
  have hdV : Hid (∀ i, -9223372036854775808 ≤ d.V i ∧ d.V i < 9223372036854775808) := hd.V
  have hs' : Hid (d.L.n ≤ 20 ∧ d.m ≤ 5) := hs
  have hdeed : Hid (S.deed d = S) := by show S.deed d = _; unfold Mk.deed; simp only [hp, if_pos hpub]
  have cP := fun w => mpickW d.what hd.what.1 hd.what.2 w
  rw [hp, (show (((0 : Nat) : Int)) = 0 from rfl)] at cP
  have cI := fun v => misW r b S hf.1 v _ I0.out.m
  have laa : S.is d.a < S.n := Mk.is_lt hf.1 _
  have lab : S.is d.b < S.n := Mk.is_lt hf.1 _
  have lan : S.is d.n < S.n := Mk.is_lt hf.1 _
  have hn3 := hf.2.1
  have hm3 := hf.2.2
  clear h m dis hd hB oB rB hp hG hf hs
  unfold Dd.val Lst.val
  go_enter Try.func12, Try.ntmps12
  go_upto_region 1 with (fail)
  have e := I0.out.x.cells
  have z1 := I0.out.x.lt
  generalize (w.alloc (.cells #[.int .i64 d.what, .int .i64 d.a, .int .i64 d.b, .int .i64 d.n, .int .u64 (d.k : Nat), .slice d.L.ad d.L.n d.L.c, .slice d.ad d.m d.c] 38)) = W1 at *
  have ⟨e0, e1, e2, e3, e4, e5, e6⟩ := e
  clear e
  go_upto_region 6 with (first | (go_at_call 14; (with_reducible refine (cI _).mono ?_); rintro e w0 ⟨rfl, rfl⟩) | (go_at_call 18; (with_reducible refine (cP _).mono ?_); rintro e w0 ⟨rfl, rfl⟩))
  clear cP cI
  have ec : ∀ w, (binOp .eql 50 (.iface 67 (.int .i64 1)) (.iface 67 (.int .i64 1))).run Try.prog w = .ok (.bool true) w := fun w => eql_code w 1 1
  have hpub1 : (S.pub : Int) + 1 < (S.n : Int) := by omega
  have hwp : IntKind.i64.wrap ((S.pub : Int) + 1) = (S.pub : Int) + 1 := by rw [IntKind.wrap_i64]; omega
  have cA := hG'.out.public_no W1 O g S I0.out.g fit'.out hpub d.k hdk.out
  clear hpub
  go_upto_region 7 with (go_at_call 25; (with_reducible refine cA.mono ?_); rintro e w3 ⟨rfl, a3⟩; obtain ⟨P3, J3, k3⟩ := I0.out.gafter hG'.out a3; have I3 : Hid (DoIn G w O r w3 P3 r g b w.heap.size (S) (S) d) := J3; clear a3 J3 k3)
  obtain ⟨vr, vv, R, t, _, _⟩ := I3.out.m
  have c0 := t.c0
  have c1 := t.c1
  have I4 : Hid (DoIn G w O r w3.drew P3 r g b w.heap.size (S) (S) d) := I3.out.drew hG'.out
  clear t
  obtain ⟨sn, hsn⟩ : ∃ sn, Hid (S.n = sn) := ⟨_, rfl⟩
  obtain ⟨sp, hsp⟩ : ∃ sp, Hid (S.pub = sp) := ⟨_, rfl⟩
  rw [hsn.out] at c0 hpub1
  rw [hsp.out] at c1 hpub1 hwp
  go_region_held3 (fun w' : World => w'.cell? ⟨b, 0, none⟩ = some (.int .i64 (sn : Nat)) ∧ w'.cell? ⟨b, 1, none⟩ = some (.int .i64 (sp : Nat))) (go_keep) (fail)
  have hend : Hid (DoEnd G O r w w3.drew g b (S.deed d)) := by
    show DoEnd G O r w w3.drew g b (S.deed d)
    rw [hdeed.out]
    exact I4.out.finish
  go_wp2
  (try go_ret)
  exact ⟨rfl, hend.out⟩
set_option maxRecDepth 8000 in
set_option maxHeartbeats 16000000 in
theorem mdo0yW {G : Mkr} (hG : GadC G) (O : Nat → Prop) (r : Nat → Nat) (g b : Nat) (S : Mk) (hf : S.fit) (d : Dd) (hs : d.L.n ≤ 20 ∧ d.m ≤ 5) (B : Nat) (w : World) (h : G w O g S) (m : Mdl r w b S) (dis : ∀ k, O k → r k = 0) (hd : d.At B w) (hB : B ≤ w.heap.size) (oB : ∀ k, O k → B ≤ k) (rB : ∀ k, r k ≠ 0 → B ≤ k) (hp : pickN d.what 9 = 0) (hpub : ¬ S.pub + 1 < S.n) :
    Calls Try.prog 12 #[.pointer (some ⟨g, 0, none⟩), .pointer (some ⟨b, 0, none⟩), d.val] w fun e w' => e = .returned (.bool true) ∧ DoEnd G O r w w' g b (S.deed d) := by
  have hG' : Hid (GadC G) := hG
  have I0 : Hid (DoIn G w O r (w.alloc (.cells #[.int .i64 d.what, .int .i64 d.a, .int .i64 d.b, .int .i64 d.n, .int .u64 (d.k : Nat), .slice d.L.ad d.L.n d.L.c, .slice d.ad d.m d.c] 38)) O r g b w.heap.size (S) (S) d) := DoIn.start hG h m dis d _
  have hat : Hid (∀ W O1 r1 T1 T2, DoIn G w O r W O1 r1 g b w.heap.size T1 T2 d → d.At W.heap.size W) := fun W O1 r1 T1 T2 I => I.at_ hd hB oB rB
  have fit' : Hid S.fit := hf
  have hda : Hid (-9223372036854775808 ≤ d.a ∧ d.a < 9223372036854775808) := hd.a
  have hdb : Hid (-9223372036854775808 ≤ d.b ∧ d.b < 9223372036854775808) := hd.b
  have hdn : Hid (-9223372036854775808 ≤ d.n ∧ d.n < 9223372036854775808) := hd.n
  have hdk : Hid (d.k < 18446744073709551616) := hd.k
  have hdL : Hid d.L.Ok := hd.L
  have hdV : Hid (∀ i, -9223372036854775808 ≤ d.V i ∧ d.V i < 9223372036854775808) := hd.V
  have hs' : Hid (d.L.n ≤ 20 ∧ d.m ≤ 5) := hs
  have hdeed : Hid (S.deed d = S.public (Ob.toG d.k)) := by show S.deed d = _; unfold Mk.deed; simp only [hp, if_neg hpub]
  have cP := fun w => mpickW d.what hd.what.1 hd.what.2 w
  rw [hp, (show (((0 : Nat) : Int)) = 0 from rfl)] at cP
  have cI := fun v => misW r b S hf.1 v _ I0.out.m
  have laa : S.is d.a < S.n := Mk.is_lt hf.1 _
  have lab : S.is d.b < S.n := Mk.is_lt hf.1 _
  have lan : S.is d.n < S.n := Mk.is_lt hf.1 _
  have hn3 := hf.2.1
  have hm3 := hf.2.2
  clear h m dis hd hB oB rB hp hG hf hs
  unfold Dd.val Lst.val
  go_enter Try.func12, Try.ntmps12
  go_upto_region 1 with (fail)
  have e := I0.out.x.cells
  have z1 := I0.out.x.lt
  generalize (w.alloc (.cells #[.int .i64 d.what, .int .i64 d.a, .int .i64 d.b, .int .i64 d.n, .int .u64 (d.k : Nat), .slice d.L.ad d.L.n d.L.c, .slice d.ad d.m d.c] 38)) = W1 at *
  have ⟨e0, e1, e2, e3, e4, e5, e6⟩ := e
  clear e
  go_upto_region 6 with (first | (go_at_call 14; (with_reducible refine (cI _).mono ?_); rintro e w0 ⟨rfl, rfl⟩) | (go_at_call 18; (with_reducible refine (cP _).mono ?_); rintro e w0 ⟨rfl, rfl⟩))
  clear cP cI
  have hpb := fit'.out.1.pubs
  have hpub1 : ¬ (S.pub : Int) + 1 < (S.n : Int) := by omega
  have hwp : IntKind.i64.wrap ((S.pub : Int) + 1) = (S.pub : Int) + 1 := by rw [IntKind.wrap_i64]; omega
  have cA := hG'.out.public_yes W1 O g S I0.out.g fit'.out hpub d.k hdk.out
  clear hpub
  go_upto_region 7 with (go_at_call 25; (with_reducible refine cA.mono ?_); rintro e w3 ⟨rfl, a3⟩; obtain ⟨P3, J3, k3⟩ := I0.out.gafter hG'.out a3; have I3 : Hid (DoIn G w O r w3 P3 r g b w.heap.size (S.public (Ob.toG d.k)) (S) d) := J3; clear a3 J3 k3)
  have I4 : Hid (DoIn G w O r w3.drew P3 r g b w.heap.size (S.public (Ob.toG d.k)) (S) d) := I3.out.drew hG'.out
  obtain ⟨vr, vv, R, t, hSy, hOk⟩ := I4.out.m
  have c0 := t.c0
  have c1 := t.c1
  have f1 := t.f 1 (by decide)
  have e4' := I4.out.x.c4
  have I5 : Hid (DoIn G w O r (w3.drew.setCell ⟨b, 1, none⟩ (.int .i64 ((S.pub : Int) + 1))) P3 r g b w.heap.size (S.public (Ob.toG d.k)) { S with pub := S.pub + 1 } d) :=
    I4.out.right hG'.out (s := r) (T' := { S with pub := S.pub + 1 }) ⟨vr, vv, R, t.set1 _, ⟨hSy.sum⟩, hOk⟩ (fun k hk => Or.inl hk) (KeepO.setCell _ b 1 _ (by show r b ≠ 0; rw [t.rb]; decide))
  have e5' := I5.out.x.c4
  have cF := mfreshW r b { S with pub := S.pub + 1 } (show S.n ≤ 100000 by omega) d.k hdk.out _ I5.out.m
  have hS5 : Hid (({ S with pub := S.pub + 1 } : Mk).fresh (Ob.toG d.k) = S.public (Ob.toG d.k)) := rfl
  rw [hS5.out] at cF
  have cF' : Calls Try.prog 29 #[.pointer (some ⟨b, 0, none⟩), .int .u64 (d.k : Nat)] (w3.drew.setCell ⟨b, 1, none⟩ (.int .i64 ((S.pub : Int) + 1))) fun e w' => e = .returned (.int .i64 (S.n : Nat)) ∧ After r (w3.drew.setCell ⟨b, 1, none⟩ (.int .i64 ((S.pub : Int) + 1))) w' b (S.public (Ob.toG d.k)) := cF
  clear cF t hSy hOk
  obtain ⟨sn, hsn⟩ : ∃ sn, Hid (S.n = sn) := ⟨_, rfl⟩
  obtain ⟨sp, hsp⟩ : ∃ sp, Hid (S.pub = sp) := ⟨_, rfl⟩
  rw [hsn.out] at c0 hpub1 cF' ⊢
  rw [hsp.out] at c1 hpub1 hwp cF' e5'
  have I5' := I5
  rw [hsp.out] at I5'
  have hx4 : (w3.setCell ⟨b, 1, none⟩ (.int .i64 ((sp : Int) + 1))).cell? ⟨w.heap.size, 4, none⟩ = some (.int .u64 (d.k : Nat)) := e5'
  have I7 : Hid (DoIn G w O r (w3.setCell ⟨b, 1, none⟩ (.int .i64 ((sp : Int) + 1))).drew P3 r g b w.heap.size (S.public (Ob.toG d.k)) ({ S with pub := sp + 1 }) d) := I5'
  have cF7 : Calls Try.prog 29 #[.pointer (some ⟨b, 0, none⟩), .int .u64 (d.k : Nat)] (w3.setCell ⟨b, 1, none⟩ (.int .i64 ((sp : Int) + 1))).drew fun e w' => e = .returned (.int .i64 (sn : Nat)) ∧ After r (w3.setCell ⟨b, 1, none⟩ (.int .i64 ((sp : Int) + 1))).drew w' b (S.public (Ob.toG d.k)) := cF'
  clear cF' I5' I5 e5'
  go_region_held3 (fun w' : World => w'.cell? ⟨b, 0, none⟩ = some (.int .i64 (sn : Nat)) ∧ w'.cell? ⟨b, 1, none⟩ = some (.int .i64 (sp : Nat))) (go_keep) (fail)
  go_wp2_with (go_at_call 29; (with_reducible refine cF7.mono ?_); rintro e w6 ⟨rfl, a6⟩; obtain ⟨s6, J6, q6, k6⟩ := I7.out.after hG'.out a6; have I6 : Hid (DoIn G w O r w6 P3 s6 g b w.heap.size (S.public (Ob.toG d.k)) (S.public (Ob.toG d.k)) d) := J6)
  have hend : Hid (DoEnd G O r w w6 g b (S.deed d)) := by
    show DoEnd G O r w w6 g b (S.deed d)
    rw [hdeed.out]
    exact I6.out.finish
  (try go_ret)
  exact ⟨rfl, hend.out⟩
set_option maxRecDepth 8000 in
set_option maxHeartbeats 16000000 in
theorem mdo4W {G : Mkr} (hG : GadC G) (O : Nat → Prop) (r : Nat → Nat) (g b : Nat) (S : Mk) (hf : S.fit) (d : Dd) (hs : d.L.n ≤ 20 ∧ d.m ≤ 5) (B : Nat) (w : World) (h : G w O g S) (m : Mdl r w b S) (dis : ∀ k, O k → r k = 0) (hd : d.At B w) (hB : B ≤ w.heap.size) (oB : ∀ k, O k → B ≤ k) (rB : ∀ k, r k ≠ 0 → B ≤ k) (hp : pickN d.what 9 = 4) :
    Calls Try.prog 12 #[.pointer (some ⟨g, 0, none⟩), .pointer (some ⟨b, 0, none⟩), d.val] w fun e w' => e = .returned (.bool true) ∧ DoEnd G O r w w' g b (S.deed d) := by
  have hG' : Hid (GadC G) := hG
  have I0 : Hid (DoIn G w O r (w.alloc (.cells #[.int .i64 d.what, .int .i64 d.a, .int .i64 d.b, .int .i64 d.n, .int .u64 (d.k : Nat), .slice d.L.ad d.L.n d.L.c, .slice d.ad d.m d.c] 38)) O r g b w.heap.size (S) (S) d) := DoIn.start hG h m dis d _
  have hat : Hid (∀ W O1 r1 T1 T2, DoIn G w O r W O1 r1 g b w.heap.size T1 T2 d → d.At W.heap.size W) := fun W O1 r1 T1 T2 I => I.at_ hd hB oB rB
  have fit' : Hid S.fit := hf
  have hda : Hid (-9223372036854775808 ≤ d.a ∧ d.a < 9223372036854775808) := hd.a
  have hdb : Hid (-9223372036854775808 ≤ d.b ∧ d.b < 9223372036854775808) := hd.b
  have hdn : Hid (-9223372036854775808 ≤ d.n ∧ d.n < 9223372036854775808) := hd.n
  have hdk : Hid (d.k < 18446744073709551616) := hd.k
  have hdL : Hid d.L.Ok := hd.L
  have hdV : Hid (∀ i, -9223372036854775808 ≤ d.V i ∧ d.V i < 9223372036854775808) := hd.V
  have hs' : Hid (d.L.n ≤ 20 ∧ d.m ≤ 5) := hs
  have hdeed : Hid (S.deed d = S.bits (S.is d.a) (bitsOf d.n)) := by show S.deed d = _; unfold Mk.deed; simp only [hp]
  have cP := fun w => mpickW d.what hd.what.1 hd.what.2 w
  rw [hp, (show (((4 : Nat) : Int)) = 4 from rfl)] at cP
  have cI := fun v => misW r b S hf.1 v _ I0.out.m
  have laa : S.is d.a < S.n := Mk.is_lt hf.1 _
  have lab : S.is d.b < S.n := Mk.is_lt hf.1 _
  have lan : S.is d.n < S.n := Mk.is_lt hf.1 _
  have hn3 := hf.2.1
  have hm3 := hf.2.2
  clear h m dis hd hB oB rB hp hG hf hs
  unfold Dd.val Lst.val
  go_enter Try.func12, Try.ntmps12
  go_upto_region 1 with (fail)
  have e := I0.out.x.cells
  have z1 := I0.out.x.lt
  generalize (w.alloc (.cells #[.int .i64 d.what, .int .i64 d.a, .int .i64 d.b, .int .i64 d.n, .int .u64 (d.k : Nat), .slice d.L.ad d.L.n d.L.c, .slice d.ad d.m d.c] 38)) = W1 at *
  have ⟨e0, e1, e2, e3, e4, e5, e6⟩ := e
  clear e
  go_upto_region 18 with (first | (go_at_call 14; (with_reducible refine (cI _).mono ?_); rintro e w0 ⟨rfl, rfl⟩) | (go_at_call 18; (with_reducible refine (cP _).mono ?_); rintro e w0 ⟨rfl, rfl⟩))
  clear cP cI
  have cA := hG'.out.bits W1 O g S I0.out.g fit'.out d.a d.n hda.out hdn.out
  obtain ⟨ta, hta⟩ : ∃ ta, Hid (S.is d.a = ta) := ⟨_, rfl⟩
  obtain ⟨q, hqb⟩ : ∃ q, Hid (bitsOf d.n = q) := ⟨_, rfl⟩
  have hq58 : q ≤ 58 := by rw [← hqb.out]; exact bitsOf_le _
  rw [hta.out] at laa
  rw [hta.out, hqb.out] at cA hdeed
  rw [hta.out]
  go_upto_region 19 with (go_at_call 34; (with_reducible refine cA.mono ?_); rintro e w3 ⟨v, P3, rfl, ox, fx, g3, p3, k3⟩)
  obtain ⟨ax, cx, rfl, _⟩ := ox.src
  have ox' : Hid (OwnI w3 (.slice ax q cx) q (fun j => ((S.n + j : Nat) : Int))) := ox
  have fx' : Hid (∀ k, Value.ownBlock (.slice ax q cx) = some k → r k = 0) := fun k hk => I0.out.m.zero k (fx k hk).1
  have I3 : Hid (DoIn G w O r w3 P3 r g b w.heap.size (S.bits ta q) (S) d) := I0.out.left hG'.out g3 p3 k3
  have e1' := I3.out.x.c3
  have cB := mbitsW r b S fit'.out.1 (by omega) (by omega) ta laa d.n w3 I3.out.m
  rw [hqb.out] at cB
  clear ox fx g3 p3 k3 cA
  go_upto_region 20 with (go_at_call 35; (with_reducible refine cB.mono ?_); rintro e w4 ⟨v4, rfl, oy, fy, a4⟩)
  obtain ⟨s4, J4, q4, k4⟩ := I3.out.after hG'.out a4
  have I4 : Hid (DoIn G w O r w4 P3 s4 g b w.heap.size (S.bits ta q) (S.bits ta q) d) := J4
  have ox4 : OwnI w4 (.slice ax q cx) q (fun j => ((S.n + j : Nat) : Int)) := own_keep ox'.out k4 (fun k hk hr => hr (fx'.out k hk))
  obtain ⟨ax2, cx2, hv2, sx⟩ := ox4.src
  obtain ⟨rfl, rfl⟩ : ax = ax2 ∧ cx = cx2 := by cases hv2; exact ⟨rfl, rfl⟩
  obtain ⟨ay, cy, rfl, sy⟩ := oy.src
  have sx' : Hid (SrcI w4 ax q (fun j => ((S.n + j : Nat) : Int))) := sx
  have sy' : Hid (SrcI w4 ay q (fun j => ((S.n + j : Nat) : Int))) := sy
  clear a4 J4 q4 k4 ox4 hv2 sx sy oy fy ox' fx' cB e0 e1 e2 e3 e4 e5 e6 e1'
  go_wp2
  go_loopw [14] (fun si wr => ∃ i : Nat, i ≤ q ∧ si = .int .i64 i ∧ Below w4.heap.size w4 wr) (fun si _ => q - (intOf si).toNat)
  case atStart => exact ⟨0, by omega, rfl, Below.refl _ _⟩
  case round =>
    obtain ⟨i, hi, rfl, hB⟩ := hrel
    by_cases hlt : i < q
    · have hlt' : (i : Int) < (q : Int) := by omega
      rcases sx'.out with hz | ⟨bx, ox, rfl, tx⟩
      · omega
      rcases sy'.out with hz | ⟨by_, oy, rfl, ty⟩
      · omega
      have cx0 := tx.at_ i hlt
      have cy0 := ty.at_ i hlt
      rw [← (bcell hB).1 bx _ tx.lt] at cx0
      rw [← (bcell hB).1 by_ _ ty.lt] at cy0
      generalize ((S.n + i : Nat) : Int) = ans at *
      clear tx ty
      go_upto_region 25 with (fail)
      go_region_held3 (fun w' : World => w'.cell? ⟨bx, ox + i, none⟩ = some (.int .i64 ans) ∧ w'.cell? ⟨by_, oy + i, none⟩ = some (.int .i64 ans)) (go_keep) (fail)
      go_wp2
      go_roundw
      case rel => exact ⟨i + 1, by omega, by go_num, by (repeat' (first | (with_reducible first | exact Below.refl _ _ | assumption | refine Below.alloc ?_ ?_ _ | refine Below.drew ?_ | refine below_drewN ?_ _ | refine Below.setCell ?_ ?_ _ | refine below_via (by with_reducible assumption) ?_ ?_) | omega | (simp only [szs]; omega) | (simp only [szs] at *; omega)))⟩
      case measure => (simp [intOf]; omega)
    · have hlt' : ¬ (i : Int) < (q : Int) := by omega
      obtain rfl : i = q := by omega
      have I5 : Hid (DoIn G w O r wr P3 s4 g b w.heap.size (S.bits ta i) (S.bits ta i) d) := I4.out.below hG'.out hB
      have hend : Hid (DoEnd G O r w wr g b (S.deed d)) := by
        show DoEnd G O r w wr g b (S.deed d)
        rw [hdeed.out]
        exact I5.out.finish
      go_wp2
      (try go_ret)
      exact ⟨rfl, hend.out⟩
set_option maxRecDepth 8000 in
set_option maxHeartbeats 16000000 in
theorem mdo8W {G : Mkr} (hG : GadC G) (O : Nat → Prop) (r : Nat → Nat) (g b : Nat) (S : Mk) (hf : S.fit) (d : Dd) (hs : d.L.n ≤ 20 ∧ d.m ≤ 5) (B : Nat) (w : World) (h : G w O g S) (m : Mdl r w b S) (dis : ∀ k, O k → r k = 0) (hd : d.At B w) (hB : B ≤ w.heap.size) (oB : ∀ k, O k → B ≤ k) (rB : ∀ k, r k ≠ 0 → B ≤ k) (hp : pickN d.what 9 = 8) :
    Calls Try.prog 12 #[.pointer (some ⟨g, 0, none⟩), .pointer (some ⟨b, 0, none⟩), d.val] w fun e w' => e = .returned (.bool true) ∧ DoEnd G O r w w' g b (S.deed d) := by
  have hG' : Hid (GadC G) := hG
  have hapt : Hid (Apt O d) := hd.apt oB
  have I0 : Hid (DoIn G w O r (w.alloc (.cells #[.int .i64 d.what, .int .i64 d.a, .int .i64 d.b, .int .i64 d.n, .int .u64 (d.k : Nat), .slice d.L.ad d.L.n d.L.c, .slice d.ad d.m d.c] 38)) O r g b w.heap.size (S) (S) d) := DoIn.start hG h m dis d _
  have hat : Hid (∀ W O1 r1 T1 T2, DoIn G w O r W O1 r1 g b w.heap.size T1 T2 d → d.At W.heap.size W) := fun W O1 r1 T1 T2 I => I.at_ hd hB oB rB
  have fit' : Hid S.fit := hf
  have hda : Hid (-9223372036854775808 ≤ d.a ∧ d.a < 9223372036854775808) := hd.a
  have hdb : Hid (-9223372036854775808 ≤ d.b ∧ d.b < 9223372036854775808) := hd.b
  have hdn : Hid (-9223372036854775808 ≤ d.n ∧ d.n < 9223372036854775808) := hd.n
  have hdk : Hid (d.k < 18446744073709551616) := hd.k
  have hdL : Hid d.L.Ok := hd.L
  have hdV : Hid (∀ i, -9223372036854775808 ≤ d.V i ∧ d.V i < 9223372036854775808) := hd.V
  have hs' : Hid (d.L.n ≤ 20 ∧ d.m ≤ 5) := hs
  have hdeed : Hid (S.deed d = S.manyV d.m d.V d.m) := by show S.deed d = _; unfold Mk.deed; simp only [hp]
  have cP := fun w => mpickW d.what hd.what.1 hd.what.2 w
  rw [hp, (show (((8 : Nat) : Int)) = 8 from rfl)] at cP
  have cI := fun v => misW r b S hf.1 v _ I0.out.m
  have laa : S.is d.a < S.n := Mk.is_lt hf.1 _
  have lab : S.is d.b < S.n := Mk.is_lt hf.1 _
  have lan : S.is d.n < S.n := Mk.is_lt hf.1 _
  have hn3 := hf.2.1
  have hm3 := hf.2.2
  clear h m dis hd hB oB rB hp hG hf hs
  unfold Dd.val Lst.val
  go_enter Try.func12, Try.ntmps12
  go_upto_region 1 with (fail)
  have e := I0.out.x.cells
  have z1 := I0.out.x.lt
  generalize (w.alloc (.cells #[.int .i64 d.what, .int .i64 d.a, .int .i64 d.b, .int .i64 d.n, .int .u64 (d.k : Nat), .slice d.L.ad d.L.n d.L.c, .slice d.ad d.m d.c] 38)) = W1 at *
  have ⟨e0, e1, e2, e3, e4, e5, e6⟩ := e
  clear e
  go_upto_region 40 with (first | (go_at_call 14; (with_reducible refine (cI _).mono ?_); rintro e w0 ⟨rfl, rfl⟩) | (go_at_call 18; (with_reducible refine (cP _).mono ?_); rintro e w0 ⟨rfl, rfl⟩))
  clear cP cI
  have cA := hG'.out.many W1 O g S I0.out.g fit'.out d.ad d.m d.c d.V hs'.out.2 (fun i _ => hdV.out i) (hat.out _ _ _ _ _ I0.out).v hapt.out
  have hm5 := hs'.out.2
  obtain ⟨m, hm⟩ : ∃ m, Hid (d.m = m) := ⟨_, rfl⟩
  have hat6 : Hid (∀ W O1 r1 T1 T2, DoIn G w O r W O1 r1 g b w.heap.size T1 T2 d → W.cell? ⟨w.heap.size, 6, none⟩ = some (.slice d.ad m d.c) ∧ IdsAt W.heap.size W d.ad m d.V) := fun W O1 r1 T1 T2 J => ⟨by rw [← hm.out]; exact J.x.c6, by rw [← hm.out]; exact (hat.out W O1 r1 T1 T2 J).v⟩
  rw [hm.out] at cA hm5 hdeed e6
  obtain ⟨ans, hans⟩ : ∃ ans : Int, Hid (((S.n + 7 * m : Nat) : Int) = ans) := ⟨_, rfl⟩
  rw [hans.out] at cA
  obtain ⟨Z, hZ⟩ : ∃ Z, Hid (S.manyV m d.V = Z) := ⟨_, rfl⟩
  have hZ0 : Hid (Z 0 = S.linear (lstOf [(0, m)])) := by show _ = _; rw [← hZ.out]; rfl
  have hZs : Hid (∀ i, Z (i + 1) = (Z i).two (S.n + 7 * i) ((Z i).is (d.V i))) := fun i => by rw [← hZ.out]; rfl
  have hZn : Hid (∀ i, (Z i).n = S.n + 1 + 7 * i) := fun i => by rw [← hZ.out]; exact Mk.manyV_n S m d.V i
  have hZm : Hid (∀ i, (Z i).m = S.m + 1 + 7 * i) := fun i => by rw [← hZ.out]; exact manyV_m S m d.V i
  have hZg : Hid (∀ i, (Z i).Good) := fun i => by rw [← hZ.out]; exact Mk.Good.manyV fit'.out.1 m d.V i
  rw [hZ.out] at cA hdeed
  go_upto_region 41 with (go_at_call 22; (with_reducible refine cA.mono ?_); rintro e w3 ⟨rfl, a3⟩; obtain ⟨P3, J3, k3⟩ := I0.out.gafter hG'.out a3; have I3 : Hid (DoIn G w O r w3 P3 r g b w.heap.size (Z m) (S) d) := J3; clear a3 J3 k3)
  have e6' := (hat6.out _ _ _ _ _ I3.out).1
  have b4 : Below w3.heap.size w3 (w3.alloc (.cells #[.int .i64 0, .int .u64 (m : Nat)] 61)) := (Below.refl _ _).alloc (Nat.le_refl _) _
  have I4 : Hid (DoIn G w O r (w3.alloc (.cells #[.int .i64 0, .int .u64 (m : Nat)] 61)) P3 r g b w.heap.size (Z m) (S) d) := I3.out.below hG'.out b4
  have tL : Lst.At ⟨some ⟨w3.heap.size, 0, none⟩, 1, 1, fun _ => 0, fun _ => m⟩ (w3.alloc (.cells #[.int .i64 0, .int .u64 (m : Nat)] 61)).heap.size (w3.alloc (.cells #[.int .i64 0, .int .u64 (m : Nat)] 61)) := by
    refine Or.inr ⟨w3.heap.size, 0, rfl, by simp, by simp, fun i hi => ?_, fun i hi => ?_⟩
    · have : i < 1 := hi
      obtain rfl : i = 0 := by omega
      simp [go_sem]
    · have : i < 1 := hi
      obtain rfl : i = 0 := by omega
      simp [go_sem]
  have cL : Calls Try.prog 31 #[.pointer (some ⟨b, 0, none⟩), .slice (some ⟨w3.heap.size, 0, none⟩) 1 1] (w3.alloc (.cells #[.int .i64 0, .int .u64 (m : Nat)] 61)) fun e w' => e = .returned (.int .i64 (S.n : Nat)) ∧ After r (w3.alloc (.cells #[.int .i64 0, .int .u64 (m : Nat)] 61)) w' b (Z 0) := by
    rw [hZ0.out]
    refine mlinearW r b S fit'.out.1 (by omega) (by omega) ⟨some ⟨w3.heap.size, 0, none⟩, 1, 1, fun _ => 0, fun _ => m⟩ ⟨fun _ => (by show (-9223372036854775808 : Int) ≤ 0; decide), fun _ => (by show (0 : Int) < 9223372036854775808; decide), fun _ => (by show m < 18446744073709551616; omega), Nat.le_refl _, (by show 1 ≤ 9223372036854775807; decide)⟩ (by show 1 ≤ 1000; decide) (lstOf [(0, m)]) ⟨rfl, fun i hi => ?_⟩ _ I4.out.m tL
    have : i < 1 := hi
    obtain rfl : i = 0 := by omega
    refine ⟨?_, rfl⟩
    show ((S.is 0 : Nat) : Int) = 0
    unfold Mk.is
    rw [if_pos (by have := fit'.out.1.n1; omega)]
    rfl
  have hconv : IntKind.u64.wrap (m : Int) = (m : Int) := by rw [IntKind.wrap_u64]; omega
  clear tL b4 I3 cA
  go_upto_region 42 with (go_at_call 31; (with_reducible refine cL.mono ?_); rintro e w5 ⟨rfl, a5⟩; obtain ⟨s5, J5, q5, k5⟩ := I4.out.after hG'.out a5; have I5 : Hid (DoIn G w O r w5 P3 s5 g b w.heap.size (Z m) (Z 0) d) := J5; clear a5 J5 q5 k5)
  clear cL I4 e0 e1 e2 e3 e4 e5 e6 e6'
  go_wp2
  go_loopw [19, 20] (fun sh si wr => ∃ (i : Nat) (s : Nat → Nat) (o : Int), i ≤ m ∧ sh = .int .i64 o ∧ si = .int .i64 i ∧ Hid (((S.n + 7 * i : Nat) : Int) = o) ∧ Hid (DoIn G w O r wr P3 s g b w.heap.size (Z m) (Z i) d)) (fun _ si _ => m - (intOf si).toNat)
  case atStart => exact ⟨0, s5, _, by omega, rfl, rfl, rfl, I5⟩
  case round =>
    clear I5
    obtain ⟨i, s, o, hi, rfl, rfl, ho, I6⟩ := hrel
    obtain ⟨e6, hids⟩ := hat6.out _ _ _ _ _ I6.out
    by_cases hlt : i < m
    · have hlt' : (i : Int) < (m : Int) := by omega
      rcases hids with hz | ⟨bi, oi, hbi, li, ti⟩
      · omega
      have dv := ti.at_ i hlt
      rw [hbi] at e6
      have hn := hZn.out i
      have hmm := hZm.out i
      have cI := misW s b (Z i) (hZg.out i) (d.V i) wr I6.out.m
      have cT := mtwoW s b (Z i) (hZg.out i) (by omega) (by omega) (S.n + 7 * i) ((Z i).is (d.V i)) (by omega) (Mk.is_lt (hZg.out i) _) wr I6.out.m
      rw [← hZs.out i, show (Z i).n + 6 = S.n + 7 * (i + 1) by omega] at cT
      generalize d.V i = vi at *
      generalize (Z i).is vi = iv at *
      rw [ho.out] at cT
      obtain ⟨h2, hh2⟩ : ∃ h2 : Int, Hid (((S.n + 7 * (i + 1) : Nat) : Int) = h2) := ⟨_, rfl⟩
      rw [hh2.out] at cT
      clear ti hn hmm hbi
      go_wp2_with (first | (go_at_call 14; (with_reducible refine cI.mono ?_); rintro e w0 ⟨rfl, rfl⟩) | (go_at_call 42; (with_reducible refine cT.mono ?_); rintro e w7 ⟨rfl, a7⟩; obtain ⟨s7, J7, q7, k7⟩ := I6.out.after hG'.out a7; have I7 : Hid (DoIn G w O r w7 P3 s7 g b w.heap.size (Z m) (Z (i + 1)) d) := J7; clear a7 J7 q7 k7))
      clear cI cT dv e6 I6
      go_roundw
      case rel => exact ⟨i + 1, s7, h2, by omega, by first | rfl | trivial, by go_num, hh2, I7⟩
      case measure => (simp [intOf]; omega)
    · have hlt' : ¬ (i : Int) < (m : Int) := by omega
      obtain rfl : i = m := by omega
      obtain rfl : ans = o := hans.out.symm.trans ho.out
      have hend : Hid (DoEnd G O r w wr g b (S.deed d)) := by
        show DoEnd G O r w wr g b (S.deed d)
        rw [hdeed.out]
        exact I6.out.finish
      go_wp2
      (try go_ret)
      exact ⟨rfl, hend.out⟩
end Go.Proofs.Ytdbolfmmlmoiaaa

namespace Go.Proofs.Ytdbolfmmlmoiaaa
open Go.RowKit Go.Proofs
set_option linter.unusedVariables false
theorem mdoW {G : Mkr} (hG : GadC G) (O : Nat → Prop) (r : Nat → Nat) (g b : Nat) (S : Mk) (hf : S.fit) (d : Dd) (hs : d.L.n ≤ 20 ∧ d.m ≤ 5) (B : Nat) (w : World) (h : G w O g S) (m : Mdl r w b S) (dis : ∀ k, O k → r k = 0) (hd : d.At B w) (hB : B ≤ w.heap.size) (oB : ∀ k, O k → B ≤ k) (rB : ∀ k, r k ≠ 0 → B ≤ k) :
    Calls Try.prog 12 #[.pointer (some ⟨g, 0, none⟩), .pointer (some ⟨b, 0, none⟩), d.val] w fun e w' => e = .returned (.bool true) ∧ DoEnd G O r w w' g b (S.deed d) := by
  obtain ⟨p, hp⟩ : ∃ p, pickN d.what 9 = p := ⟨_, rfl⟩
  have hlt : p < 9 := by rw [← hp]; exact pickN_lt d.what (by decide)
  have hcase : p = 0 ∨ p = 1 ∨ p = 2 ∨ p = 3 ∨ p = 4 ∨ p = 5 ∨ p = 6 ∨ p = 7 ∨ p = 8 := by omega
  rcases hcase with rfl | rfl | rfl | rfl | rfl | rfl | rfl | rfl | rfl
  · by_cases hpub : S.pub + 1 < S.n
    · exact mdo0nW hG O r g b S hf d hs B w h m dis hd hB oB rB hp hpub
    · exact mdo0yW hG O r g b S hf d hs B w h m dis hd hB oB rB hp hpub
  · exact mdo1W hG O r g b S hf d hs B w h m dis hd hB oB rB hp
  · exact mdo2W hG O r g b S hf d hs B w h m dis hd hB oB rB hp
  · exact mdo3W hG O r g b S hf d hs B w h m dis hd hB oB rB hp
  · exact mdo4W hG O r g b S hf d hs B w h m dis hd hB oB rB hp
  · exact mdo5W hG O r g b S hf d hs B w h m dis hd hB oB rB hp
  · exact mdo6W hG O r g b S hf d hs B w h m dis hd hB oB rB hp
  · exact mdo7W hG O r g b S hf d hs B w h m dis hd hB oB rB hp
  · exact mdo8W hG O r g b S hf d hs B w h m dis hd hB oB rB hp
end Go.Proofs.Ytdbolfmmlmoiaaa

namespace Go.Proofs.Ytdbolfmmlmoiaaa
open Go.RowKit Go.Proofs
set_option linter.unusedVariables false
set_option linter.unusedSimpArgs false
attribute [local go_sem ↓] Go.wp_at_zero Go.wp_at_succ
theorem Dd.At.low {B : Nat} {w w1 : World} {d : Dd} (h : d.At B w) (hb : Below B w w1) : d.At B w1 := by
  refine ⟨h.what, h.a, h.b, h.n, h.k, h.L, h.V, TrmsAt.below h.l hb, ?_⟩
  rcases h.v with h1 | ⟨b, off, e, hl, t⟩
  · exact Or.inl h1
  · exact Or.inr ⟨b, off, e, hl, Nat.lt_of_lt_of_le t.lt hb.size, fun i hi => by rw [(bcell hb).1 b _ hl]; exact t.at_ i hi⟩
/-- Both makers, of memory that wasn't there in w0. -/
structure BthM (G : Mkr) (w0 w : World) (O : Nat → Prop) (r : Nat → Nat) (g b : Nat) (S : Mk) : Prop where
  g : G w O g S
  m : Mdl r w b S
  dis : ∀ k, O k → r k = 0
  o : ∀ k, O k → w0.heap.size ≤ k
  q : ∀ k, r k ≠ 0 → w0.heap.size ≤ k
  b : Below w0.heap.size w0 w
theorem BthM.left {G : Mkr} (hG : GadC G) {w0 w w' : World} {O P : Nat → Prop} {r : Nat → Nat} {g b : Nat} {S : Mk} (h : BthM G w0 w O r g b S) (_a : GAfter G O w w' g S) (g' : G w' P g S) (o' : ∀ k, P k → O k ∨ w.heap.size ≤ k) (k' : KeepO O w w') : BthM G w0 w' P r g b S := by
  have z := h.b.size
  refine ⟨g', h.m.keep k' (fun k hr ho => hr (h.dis k ho)), fun k hk => ?_, fun k hk => ?_, h.q, k'.to_below h.b h.o⟩
  · rcases o' k hk with h1 | h1
    · exact h.dis k h1
    · exact h.m.zero k h1
  · rcases o' k hk with h1 | h1
    · exact h.o k h1
    · omega
theorem BthM.below {G : Mkr} (hG : GadC G) {w0 w w' : World} {O : Nat → Prop} {r : Nat → Nat} {g b : Nat} {S : Mk} (h : BthM G w0 w O r g b S) (hb : Below w.heap.size w w') : BthM G w0 w' O r g b S :=
  ⟨hG.below h.g hb, h.m.below hb, h.dis, h.o, h.q, below_via hb h.b h.b.size⟩
theorem BthM.done {G : Mkr} {w0 w w' : World} {O : Nat → Prop} {r : Nat → Nat} {g b : Nat} {S T : Mk} (h : BthM G w0 w O r g b S) (e : DoEnd G O r w w' g b T) : ∃ P s, BthM G w0 w' P s g b T := by
  obtain ⟨P, s, h1, h2, h3, h4, h5, h6⟩ := e
  have z := h.b.size
  refine ⟨P, s, h1, h2, h3, fun k hk => ?_, fun k hk => ?_, h.b.trans (h6.below (fun k hk ho => ?_) h.b.size)⟩
  · rcases h4 k hk with h | h'
    · rename_i hh; exact hh.o k h
    · omega
  · rcases h5 k hk with h | h'
    · rename_i hh; exact hh.q k h
    · omega
  · rcases ho with h' | h'
    · have := h.o k h'; omega
    · have := h.q k h'; omega
/-- Rows that lie in memory, nothing behind them. -/
def okR (R : Nat → Nat → Lst) (m : Nat) (i j : Nat) : Lst := if i < m ∧ j < 3 then R i j else lstOf []
theorem okR_at {R : Nat → Nat → Lst} {m i j : Nat} (hi : i < m) (hj : j < 3) : okR R m i j = R i j := if_pos ⟨hi, hj⟩
theorem okR_ok {R : Nat → Nat → Lst} {m : Nat} (h : ∀ i, i < m → ∀ j, j < 3 → (R i j).Ok) : ∀ i j, (okR R m i j).Ok := fun i j => by
  unfold okR
  split
  · rename_i e; exact h i e.1 j e.2
  · exact ⟨fun _ => (by show (-9223372036854775808 : Int) ≤ 0; decide), fun _ => (by show (0 : Int) < 9223372036854775808; decide), fun _ => (by show 0 < 18446744073709551616; decide), Nat.le_refl _, (by show 0 ≤ 9223372036854775807; decide)⟩
theorem okR_rows {R : Nat → Nat → Lst} {B m : Nat} {w : World} {a : Option Addr} (h : RowsAt B w a m R) : RowsAt B w a m (okR R m) := by
  rcases h with h | ⟨b, off, e, t⟩
  · exact Or.inl h
  · exact Or.inr ⟨b, off, e, t.lt, fun i hi j hj => by rw [okR_at hi hj]; exact t.cell i hi j hj, fun i hi j hj => by rw [okR_at hi hj]; exact t.at_ i hi j hj⟩
/-- The document's own maker, new. -/
theorem mdl_new (w : World) : Mdl (fun k => if k = w.heap.size + 1 then 1 else if k = w.heap.size then 3 else 0) ((w.alloc (.cells #[.int .u64 1] 30)).alloc (.cells #[.int .i64 1, .int .i64 0, .slice none 0 0, .slice (some ⟨w.heap.size, 0, none⟩) 1 1] 33)) (w.heap.size + 1) Mk.new := by
  refine ⟨.slice none 0 0, .slice (some ⟨w.heap.size, 0, none⟩) 1 1, fun _ _ => lstOf [], ⟨?_, ?_, ?_, ?_, fun o ho => ?_, by simp, fun k hk => ?_, World.ownsRow_nil _ _ _ _, fun k hk => (by cases hk), ⟨rfl, Or.inr ⟨w.heap.size, 1, #[.int .u64 1], rfl, Nat.zero_le _, ?_, Nat.le_refl _, by decide, rfl, rfl⟩⟩, fun k hk => ?_, fun i hi => absurd hi (Nat.not_lt_zero _)⟩, ⟨fun i hi => absurd hi (Nat.not_lt_zero _)⟩, fun i hi => absurd hi (Nat.not_lt_zero _)⟩
  · simp [go_sem]; rfl
  · simp [go_sem]; rfl
  · simp [go_sem]
  · simp [go_sem]
  · simp [go_sem]
  · simp only [szs]
    by_cases h1 : k = w.heap.size + 1
    · omega
    · by_cases h2 : k = w.heap.size
      · omega
      · rw [if_neg h1, if_neg h2] at hk; exact absurd rfl hk
  · show ((w.heap.push _).push _)[w.heap.size]? = _
    simp [Array.getElem?_push]
  · cases hk
    show (if w.heap.size = w.heap.size + 1 then 1 else if w.heap.size = w.heap.size then 3 else 0) = 3
    rw [if_neg (by omega), if_pos rfl]
set_option maxRecDepth 8000 in
set_option maxHeartbeats 32000000 in
theorem gplays_of {G : Mkr} (hG : GadC G) (ad : Option Addr) (n c : Nat) (D : Nat → Dd) (hn : n ≤ 9223372036854775807) (w : World) (hD : DdsAt w.heap.size w ad n D)
   (cu : ∀ w, Calls Try.prog 9 #[] w fun e w' => e = .returned (.bool true) ∧ Below w.heap.size w w') :
    Calls Try.prog 3 #[.slice ad n c] w fun e w' => e = .returned (.bool true) ∧ Below w.heap.size w w' := by
  have hG' : Hid (GadC G) := hG
  have hD' : Hid (DdsAt w.heap.size w ad n D) := hD
  have cN := hG.new
  clear hG hD
  go_enter Try.func3, Try.ntmps3
  go_upto_region 5 with (first | (go_at_call 9; (with_reducible refine (cu _).mono ?_); rintro e wu ⟨rfl, bu⟩) | (go_at_call 10; (with_reducible refine (cN _).mono ?_); rintro e w1 ⟨g, O, rfl, g0, o0, b1⟩))
  have zu := bu.size
  have hB1 : Below w.heap.size w w1 := below_via b1 bu zu
  have z1 := hB1.size
  have b2 : Below w1.heap.size w1 ((w1.alloc (.cells #[.int .u64 1] 30)).alloc (.cells #[.int .i64 1, .int .i64 0, .slice none 0 0, .slice (some ⟨w1.heap.size, 0, none⟩) 1 1] 33)) := by (repeat' (first | (with_reducible first | exact Below.refl _ _ | assumption | refine Below.alloc ?_ ?_ _ | refine Below.drew ?_ | refine below_drewN ?_ _ | refine Below.setCell ?_ ?_ _ | refine below_via (by with_reducible assumption) ?_ ?_) | omega | (simp only [szs]; omega) | (simp only [szs] at *; omega)))
  have hT0 : Hid (∃ O r, BthM G w ((w1.alloc (.cells #[.int .u64 1] 30)).alloc (.cells #[.int .i64 1, .int .i64 0, .slice none 0 0, .slice (some ⟨w1.heap.size, 0, none⟩) 1 1] 33)) O r g (w1.heap.size + 1) Mk.new) := by
    refine ⟨O, _, hG'.out.below g0 b2, mdl_new w1, fun k hk => ?_, fun k hk => by have := o0 k hk; omega, fun k hk => ?_, below_via b2 hB1 z1⟩
    · have := hG'.out.lt g0 k hk
      show (if k = w1.heap.size + 1 then 1 else if k = w1.heap.size then 3 else 0) = 0
      rw [if_neg (by omega), if_neg (by omega)]
    · by_cases h1 : k = w1.heap.size + 1
      · omega
      · by_cases h2 : k = w1.heap.size
        · omega
        · rw [if_neg h1, if_neg h2] at hk; exact absurd rfl hk
  clear cN cu g0 o0 b1 bu zu hB1 z1 b2
  go_upto_region 6 with (fail)
  generalize ((w1.alloc (.cells #[.int .u64 1] 30)).alloc (.cells #[.int .i64 1, .int .i64 0, .slice none 0 0, .slice (some ⟨w1.heap.size, 0, none⟩) 1 1] 33)) = W at *
  generalize w1.heap.size + 1 = b at *
  go_wp2
  go_loopw [6] (fun si wr => ∃ i : Nat, i ≤ n ∧ i ≤ 20 ∧ si = .int .i64 i ∧ Hid (∃ O r, BthM G w wr O r g b (Mk.plays D i))) (fun si _ => n - (intOf si).toNat)
  case atStart => exact ⟨0, by omega, by omega, rfl, hT0⟩
  case round =>
    clear hT0
    obtain ⟨i, hi, hi20, rfl, hT⟩ := hrel
    by_cases hlt : i < n
    · have hlt' : (i : Int) < (n : Int) := by omega
      by_cases hl20 : i < 20
      · have hl20' : (i : Int) < 20 := by omega
        rcases hD'.out with hz | ⟨bd, off, rfl, dd⟩
        · omega
        have ddi : Hid ((D i).At w.heap.size w) := dd.at_ i hlt
        have dd' : Hid (DdsIn w.heap.size w bd off n D) := dd
        obtain ⟨O, r, hM⟩ := hT.out
        have hM' : Hid (BthM G w wr O r g b (Mk.plays D i)) := hM
        have ⟨d0, d1, d2, d3, d4, d5, d6⟩ := dd.parts hM.b hlt
        have cs := msmallW (D i)
        unfold Dd.val Lst.val at cs
        have dlt := dd.lt
        clear dd hM hT
        cases hsm : (D i).small with
        | false =>
          rw [hsm] at cs
          have hT2 : Hid (∀ w1, Below wr.heap.size wr w1 → ∃ O r, BthM G w w1 O r g b (Mk.plays D (i + 1))) := fun w1 hb => by
            rw [plays_no hsm]
            exact ⟨O, r, hM'.out.below hG'.out hb⟩
          go_wp2_with (go_at_call 11; (with_reducible refine (cs _).mono ?_); rintro e w1 ⟨rfl, b1⟩)
          have hT3 : Hid (∃ O r, BthM G w w1 O r g b (Mk.plays D (i + 1))) := hT2.out w1 b1
          clear d0 d1 d2 d3 d4 d5 d6 hT2 b1
          go_roundw
          case rel => exact ⟨i + 1, by omega, by omega, by go_num, hT3⟩
          case measure => (simp [intOf]; omega)
        | true =>
          rw [hsm] at cs
          go_upto_region 11 with (go_at_call 11; (with_reducible refine (cs _).mono ?_); rintro e w1 ⟨rfl, b1⟩)
          have M1 : Hid (BthM G w w1 O r g b (Mk.plays D i)) := hM'.out.below hG'.out b1
          clear d0 d1 d2 d3 d4 d5 d6 cs b1 hM'
          have ⟨d0, d1, d2, d3, d4, d5, d6⟩ := dd'.out.parts M1.out.b hlt
          have cd : Calls Try.prog 12 #[.pointer (some ⟨g, 0, none⟩), .pointer (some ⟨b, 0, none⟩), .agg #[.int .i64 (D i).what, .int .i64 (D i).a, .int .i64 (D i).b, .int .i64 (D i).n, .int .u64 ((D i).k : Nat), .slice (D i).L.ad (D i).L.n (D i).L.c, .slice (D i).ad (D i).m (D i).c]] w1 fun e w' => e = .returned (.bool true) ∧ DoEnd G O r w1 w' g b (Mk.plays D (i + 1)) := by
            rw [plays_yes hsm]
            exact mdoW hG'.out O r g b (Mk.plays D i) (plays_fit D hi20) (D i) (small_le hsm) w.heap.size w1 M1.out.g M1.out.m M1.out.dis (ddi.out.low M1.out.b) M1.out.b.size M1.out.o M1.out.q
          go_upto_region 12 with (go_at_call 12; (with_reducible refine cd.mono ?_); rintro e w2 ⟨rfl, dend⟩)
          obtain ⟨P, s, hM2⟩ := M1.out.done dend
          have M2 : Hid (BthM G w w2 P s g b (Mk.plays D (i + 1))) := hM2
          clear d0 d1 d2 d3 d4 d5 d6 cd dend hM2 M1
          have ⟨d0, d1, d2, d3, d4, d5, d6⟩ := dd'.out.parts M2.out.b hlt
          have fT := plays_fit D (show i + 1 ≤ 20 by omega)
          have lis : Hid ((Mk.plays D (i + 1)).is (D i).a < (Mk.plays D (i + 1)).n) := Mk.is_lt fT.1 _
          have hn1 := fT.1.n1
          generalize hTe : Mk.plays D (i + 1) = T at *
          have hTd : Hid (Mk.plays D (i + 1) = T) := hTe
          clear hTe
          obtain ⟨vr, vv, R, t, hSy, hOk⟩ := M2.out.m
          obtain ⟨av, cv, rfl, hsrc⟩ := t.src
          rcases hsrc with hz | ⟨bv, ov, rfl, lv, wv⟩
          · omega
          have v0 := wv.at_ _ lis.out
          have c3 := t.c3
          have rb : Hid (¬ P b) := fun hp => by have := M2.out.dis b hp; rw [t.rb] at this; cases this
          have rv : Hid (¬ P bv) := fun hp => by have h1 := M2.out.dis bv hp; have h2 := t.rv bv rfl; rw [h1] at h2; cases h2
          have rd : Hid (¬ P bd) := fun hp => by have := M2.out.o bd hp; omega
          have cI := fun W h => misW s b T fT.1 (D i).a W h
          have cV := hG'.out.value w2.drew P g T (hG'.out.below M2.out.g (Below.refl _ _).drew) fT (D i).a ddi.out.a.1 ddi.out.a.2
          have hisI : ((T.is (D i).a : Nat) : Int) < (T.n : Int) := by have := lis.out; omega
          generalize T.is (D i).a = ia at *
          generalize T.v ia = y at *
          generalize (D i).a = xa at *
          clear t hSy hOk wv d0 d2 d3 d4 d5 d6
          have M2d : Hid (BthM G w w2.drew P s g b T) := M2.out.below hG'.out (Below.refl _ _).drew
          go_region_held3 (fun w' : World => w'.cell? ⟨bd, off + i * 7 + 1, none⟩ = some (.int .i64 xa) ∧ w'.cell? ⟨b, 3, none⟩ = some (.slice (some ⟨bv, ov, none⟩) T.n cv) ∧ w'.cell? ⟨bv, ov + ia, none⟩ = some (.int .u64 (y : Nat))) (go_keep)
            ((first | (go_at_call 13; (with_reducible refine cV.mono ?_); rintro e w3 ⟨rfl, P3, g3, p3, k3⟩; have M3 : Hid (BthM G w w3 P3 s g b T) := M2d.out.left hG'.out ⟨P3, g3, p3, k3⟩ g3 p3 k3; have x1 : w3.cell? ⟨bd, off + i * 7 + 1, none⟩ = some (.int .i64 xa) := k3.cell (w := w2.drew) d1 rd.out; have x2 : w3.cell? ⟨b, 3, none⟩ = some (.slice (some ⟨bv, ov, none⟩) T.n cv) := k3.cell (w := w2.drew) c3 rb.out; have x3 : w3.cell? ⟨bv, ov + ia, none⟩ = some (.int .u64 (y : Nat)) := k3.cell (w := w2.drew) v0 rv.out; clear g3 p3 k3) | (go_at_call 14; (with_reducible refine (cI _ M3.out.m).mono ?_); rintro e w0 ⟨rfl, rfl⟩)))
          have hT3 : Hid (∃ O r, BthM G w w3 O r g b T) := ⟨P3, s, M3.out⟩
          clear x1 x2 x3 d1 c3 v0 cI cV M2 M2d rb rv rd
          go_wp2
          go_roundw
          case rel => exact ⟨i + 1, by omega, by omega, by go_num, by show ∃ O r, _; rw [hTd.out]; exact hT3.out⟩
          case measure => (simp [intOf]; omega)
      · have hl20' : ¬ (i : Int) < 20 := by omega
        obtain ⟨O, r, hM⟩ := hT.out
        have fD := plays_fit D hi20
        have hB0 : Hid (Below w.heap.size w wr) := hM.b
        generalize Mk.plays D i = S at *
        have hM' : Hid (BthM G w wr O r g b S) := hM
        have fD' : Hid S.fit := fD
        have cD := hG'.out.done wr O g S hM.g fD
        unfold rankV at cD
        obtain ⟨sn, hsn⟩ : ∃ sn, Hid (S.n = sn) := ⟨_, rfl⟩
        obtain ⟨sp, hsp⟩ : ∃ sp, Hid (S.pub = sp) := ⟨_, rfl⟩
        obtain ⟨sm, hsm⟩ : ∃ sm, Hid (S.m = sm) := ⟨_, rfl⟩
        rw [hsn.out, hsp.out, hsm.out] at cD
        have hn3 : sn ≤ 3000 := by rw [← hsn.out]; exact fD.2.1
        have hm3 : sm ≤ 3000 := by rw [← hsm.out]; exact fD.2.2
        clear hT hM fD
        go_upto_region 15 with (go_at_call 15; (with_reducible refine cD.mono ?_); rintro e w5 ⟨Q, a5, c5, R5, x5, d5, rfl, g5, o5, k5, ns, sy, _, wd, hx5, _, _, _, _⟩)
        have I5 : Hid (BthM G w w5 Q r g b S) := hM'.out.left hG'.out ⟨Q, g5, o5, k5⟩ g5 o5 k5
        have ns' : Hid (NewSys wr.heap.size Q w5 a5 sm R5) := ns
        have sy' : Hid (SysOf S R5) := sy
        have wd' : Hid (Wds w5 x5 0 sn S.v) := wd
        clear cD g5 o5 k5 ns sy wd hx5
        have b6 : Below w5.heap.size w5 (w5.alloc (.cells #[.int .i64 (sn : Nat), .int .i64 (sp : Nat), .slice a5 sm c5] 29)) := (Below.refl _ _).alloc (Nat.le_refl _) _
        have I6 : Hid (BthM G w (w5.alloc (.cells #[.int .i64 (sn : Nat), .int .i64 (sp : Nat), .slice a5 sm c5] 29)) Q r g b S) := I5.out.below hG'.out b6
        have t6 : Three (w5.alloc (.cells #[.int .i64 (sn : Nat), .int .i64 (sp : Nat), .slice a5 sm c5] 29)) w5.heap.size (.int .i64 (sn : Nat)) (.int .i64 (sp : Nat)) (.slice a5 sm c5) := by (repeat' (first | (with_reducible first | assumption | exact Three.own (by with_reducible assumption) | refine Three.set ?_ _ _ _ | refine Own3.set ?_ _ _ _ | refine Three.drew ?_ | refine Three.drewN ?_ _ | refine Own3.drew ?_ | refine Own3.drewN ?_ _ | (refine Three.new ?_; simp only [szs]; done) | (refine Own3.new ?_; simp only [szs]; done) | refine Three.alloc ?_ _ | refine Own3.alloc ?_ _ | refine Three.far ?_ ?_ _ _ | refine Own3.far ?_ ?_ _ _ | refine Three.via (by with_reducible assumption) ?_ ?_ | refine Own3.via (by with_reducible assumption) ?_ ?_) | omega | (simp only [szs]; omega)))
        have r6 : Hid (RowsAt (w5.alloc (.cells #[.int .i64 (sn : Nat), .int .i64 (sp : Nat), .slice a5 sm c5] 29)).heap.size (w5.alloc (.cells #[.int .i64 (sn : Nat), .int .i64 (sp : Nat), .slice a5 sm c5] 29)) a5 sm R5) := ns'.out.rows.to b6 (Nat.le_refl _)
        have wd6 : Hid (Wds (w5.alloc (.cells #[.int .i64 (sn : Nat), .int .i64 (sp : Nat), .slice a5 sm c5] 29)) x5 0 sn S.v) := wd'.out.below b6 wd'.out.lt
        clear b6 I5 wd'
        generalize (w5.alloc (.cells #[.int .i64 (sn : Nat), .int .i64 (sp : Nat), .slice a5 sm c5] 29)) = W6 at *
        generalize w5.heap.size = bs at *
        obtain ⟨vr, vv, R, t, hSy, hOk⟩ := I6.out.m
        obtain ⟨av, cv, rfl, hsrc⟩ := t.src
        obtain ⟨am, cm, rfl, _, _, rM⟩ := OwnR.rows (w := W6) (base := 0) (v := vr) (n := S.m) (R := R) t.rows (fun i hi j hj => (t.lsts i hi j hj).at_)
        have hsrc' : Hid (SrcW W6.heap.size W6 av S.n S.v) := hsrc
        have rM' : Hid (RowsAt W6.heap.size W6 am S.m R) := rM
        have hSy' : Hid (SysOf S R) := hSy
        have hOk' : Hid (∀ i, i < S.m → ∀ j, j < 3 → (R i j).Ok) := hOk
        have c0 := t.c0
        have c1 := t.c1
        have c2 := t.c2
        have c3 := t.c3
        rw [hsn.out] at c0 c3 hsrc'
        rw [hsp.out] at c1
        rw [hsm.out] at c2 rM' hOk'
        have blt := t.blt
        have ⟨f1, f2, f3, f4, f5, f6, f7⟩ := t6
        have tlt := t6.lt
        clear t hsrc rM hSy hOk t6
        go_wp2
        go_loopw [11] (fun sj ws => ∃ j : Nat, j ≤ sn ∧ sj = .int .i64 j ∧ Below W6.heap.size W6 ws) (fun sj _ => sn - (intOf sj).toNat)
        case atStart => exact ⟨0, by omega, rfl, Below.refl _ _⟩
        case round =>
          obtain ⟨j, hj, rfl, hBs⟩ := hrel
          have zs := hBs.size
          have c3s : wr.cell? ⟨b, 3, none⟩ = some (.slice av sn cv) := ((bcell hBs).1 b 3 blt).trans c3
          by_cases hlj : j < sn
          · have hlj' : (j : Int) < (sn : Int) := by omega
            rcases hsrc'.out with hz | ⟨bv, ov, rfl, lv, wv⟩
            · omega
            have v0 := (wv.below hBs lv).at_ j hlj
            have u0 := (wd6.out.below hBs wd6.out.lt).at_ j hlj
            rw [Nat.zero_add] at u0
            generalize S.v j = y at *
            clear wv
            go_upto_region 20 with (fail)
            go_region_held3 (fun w' : World => w'.cell? ⟨b, 3, none⟩ = some (.slice (some ⟨bv, ov, none⟩) sn cv) ∧ w'.cell? ⟨bv, ov + j, none⟩ = some (.int .u64 (y : Nat)) ∧ w'.cell? ⟨x5, j, none⟩ = some (.int .u64 (y : Nat))) (go_keep) (fail)
            go_wp2
            go_roundw
            case rel => exact ⟨j + 1, by omega, by go_num, by (repeat' (first | (with_reducible first | exact Below.refl _ _ | assumption | refine Below.alloc ?_ ?_ _ | refine Below.drew ?_ | refine below_drewN ?_ _ | refine Below.setCell ?_ ?_ _ | refine below_via (by with_reducible assumption) ?_ ?_) | omega | (simp only [szs]; omega) | (simp only [szs] at *; omega)))⟩
            case measure => (simp [intOf]; omega)
          · have hlj' : ¬ (j : Int) < (sn : Int) := by omega
            obtain rfl : j = sn := by omega
            have g0 : wr.cell? ⟨b, 0, none⟩ = some (.int .i64 (j : Nat)) := ((bcell hBs).1 b 0 blt).trans c0
            have g1 : wr.cell? ⟨b, 1, none⟩ = some (.int .i64 (sp : Nat)) := ((bcell hBs).1 b 1 blt).trans c1
            have g2 : wr.cell? ⟨b, 2, none⟩ = some (.slice am sm cm) := ((bcell hBs).1 b 2 blt).trans c2
            have h0 : wr.cell? ⟨bs, 0, none⟩ = some (.int .i64 (j : Nat)) := ((bcell hBs).1 bs 0 tlt).trans f1
            have h1 : wr.cell? ⟨bs, 1, none⟩ = some (.int .i64 (sp : Nat)) := ((bcell hBs).1 bs 1 tlt).trans f2
            have h2 : wr.cell? ⟨bs, 2, none⟩ = some (.slice a5 sm c5) := ((bcell hBs).1 bs 2 tlt).trans f3
            have cR := vrankSameW (j : Nat) (sp : Nat) a5 am sm c5 cm (by omega) R5 (okR R sm) ns'.out.ok (okR_ok hOk'.out) (fun i hi k hk => by rw [okR_at hi hk]; exact same_sums (sy'.out.sum i (by rw [hsm.out]; exact hi) k hk) (hSy'.out.sum i (by rw [hsm.out]; exact hi) k hk)) wr.drew (r6.out.to ((hBs.drew)) (Nat.le_refl _)) ((okR_rows rM'.out).to ((hBs.drew)) (Nat.le_refl _))
            have hBe : Hid (Below w.heap.size w wr.drew) := below_via hBs.drew I6.out.b I6.out.b.size
            unfold rankV at cR
            clear f1 f2 f3 f4 f5 f6 f7 c0 c1 c2 c3 c3s r6 wd6 rM' hSy' hOk' hsrc' ns' sy' I6 hM' hB0
            go_upto_region 22 with (fail)
            go_region_held3 (fun w' : World => (w'.cell? ⟨b, 0, none⟩ = some (.int .i64 (j : Nat)) ∧ w'.cell? ⟨b, 1, none⟩ = some (.int .i64 (sp : Nat)) ∧ w'.cell? ⟨b, 2, none⟩ = some (.slice am sm cm)) ∧ (w'.cell? ⟨bs, 0, none⟩ = some (.int .i64 (j : Nat)) ∧ w'.cell? ⟨bs, 1, none⟩ = some (.int .i64 (sp : Nat)) ∧ w'.cell? ⟨bs, 2, none⟩ = some (.slice a5 sm c5))) (go_keep)
              ((go_at_call 16; (with_reducible refine cR.mono ?_); rintro e w9 ⟨rfl, b9⟩; have hend : Hid (Below w.heap.size w w9) := below_via b9 hBe.out hBe.out.size; have kb := fun o => (bcell b9).1 b o (by simp only [szs]; omega); have kbs := fun o => (bcell b9).1 bs o (by simp only [szs]; omega); clear b9))
            go_wp2
            (try go_ret)
            exact ⟨rfl, hend.out⟩
    · have hlt' : ¬ (i : Int) < (n : Int) := by omega
      obtain ⟨O, r, hM⟩ := hT.out
      have fD := plays_fit D hi20
      have hB0 : Hid (Below w.heap.size w wr) := hM.b
      generalize Mk.plays D i = S at *
      have hM' : Hid (BthM G w wr O r g b S) := hM
      have fD' : Hid S.fit := fD
      have cD := hG'.out.done wr O g S hM.g fD
      unfold rankV at cD
      obtain ⟨sn, hsn⟩ : ∃ sn, Hid (S.n = sn) := ⟨_, rfl⟩
      obtain ⟨sp, hsp⟩ : ∃ sp, Hid (S.pub = sp) := ⟨_, rfl⟩
      obtain ⟨sm, hsm⟩ : ∃ sm, Hid (S.m = sm) := ⟨_, rfl⟩
      rw [hsn.out, hsp.out, hsm.out] at cD
      have hn3 : sn ≤ 3000 := by rw [← hsn.out]; exact fD.2.1
      have hm3 : sm ≤ 3000 := by rw [← hsm.out]; exact fD.2.2
      clear hT hM fD
      go_upto_region 15 with (go_at_call 15; (with_reducible refine cD.mono ?_); rintro e w5 ⟨Q, a5, c5, R5, x5, d5, rfl, g5, o5, k5, ns, sy, _, wd, hx5, _, _, _, _⟩)
      have I5 : Hid (BthM G w w5 Q r g b S) := hM'.out.left hG'.out ⟨Q, g5, o5, k5⟩ g5 o5 k5
      have ns' : Hid (NewSys wr.heap.size Q w5 a5 sm R5) := ns
      have sy' : Hid (SysOf S R5) := sy
      have wd' : Hid (Wds w5 x5 0 sn S.v) := wd
      clear cD g5 o5 k5 ns sy wd hx5
      have b6 : Below w5.heap.size w5 (w5.alloc (.cells #[.int .i64 (sn : Nat), .int .i64 (sp : Nat), .slice a5 sm c5] 29)) := (Below.refl _ _).alloc (Nat.le_refl _) _
      have I6 : Hid (BthM G w (w5.alloc (.cells #[.int .i64 (sn : Nat), .int .i64 (sp : Nat), .slice a5 sm c5] 29)) Q r g b S) := I5.out.below hG'.out b6
      have t6 : Three (w5.alloc (.cells #[.int .i64 (sn : Nat), .int .i64 (sp : Nat), .slice a5 sm c5] 29)) w5.heap.size (.int .i64 (sn : Nat)) (.int .i64 (sp : Nat)) (.slice a5 sm c5) := by (repeat' (first | (with_reducible first | assumption | exact Three.own (by with_reducible assumption) | refine Three.set ?_ _ _ _ | refine Own3.set ?_ _ _ _ | refine Three.drew ?_ | refine Three.drewN ?_ _ | refine Own3.drew ?_ | refine Own3.drewN ?_ _ | (refine Three.new ?_; simp only [szs]; done) | (refine Own3.new ?_; simp only [szs]; done) | refine Three.alloc ?_ _ | refine Own3.alloc ?_ _ | refine Three.far ?_ ?_ _ _ | refine Own3.far ?_ ?_ _ _ | refine Three.via (by with_reducible assumption) ?_ ?_ | refine Own3.via (by with_reducible assumption) ?_ ?_) | omega | (simp only [szs]; omega)))
      have r6 : Hid (RowsAt (w5.alloc (.cells #[.int .i64 (sn : Nat), .int .i64 (sp : Nat), .slice a5 sm c5] 29)).heap.size (w5.alloc (.cells #[.int .i64 (sn : Nat), .int .i64 (sp : Nat), .slice a5 sm c5] 29)) a5 sm R5) := ns'.out.rows.to b6 (Nat.le_refl _)
      have wd6 : Hid (Wds (w5.alloc (.cells #[.int .i64 (sn : Nat), .int .i64 (sp : Nat), .slice a5 sm c5] 29)) x5 0 sn S.v) := wd'.out.below b6 wd'.out.lt
      clear b6 I5 wd'
      generalize (w5.alloc (.cells #[.int .i64 (sn : Nat), .int .i64 (sp : Nat), .slice a5 sm c5] 29)) = W6 at *
      generalize w5.heap.size = bs at *
      obtain ⟨vr, vv, R, t, hSy, hOk⟩ := I6.out.m
      obtain ⟨av, cv, rfl, hsrc⟩ := t.src
      obtain ⟨am, cm, rfl, _, _, rM⟩ := OwnR.rows (w := W6) (base := 0) (v := vr) (n := S.m) (R := R) t.rows (fun i hi j hj => (t.lsts i hi j hj).at_)
      have hsrc' : Hid (SrcW W6.heap.size W6 av S.n S.v) := hsrc
      have rM' : Hid (RowsAt W6.heap.size W6 am S.m R) := rM
      have hSy' : Hid (SysOf S R) := hSy
      have hOk' : Hid (∀ i, i < S.m → ∀ j, j < 3 → (R i j).Ok) := hOk
      have c0 := t.c0
      have c1 := t.c1
      have c2 := t.c2
      have c3 := t.c3
      rw [hsn.out] at c0 c3 hsrc'
      rw [hsp.out] at c1
      rw [hsm.out] at c2 rM' hOk'
      have blt := t.blt
      have ⟨f1, f2, f3, f4, f5, f6, f7⟩ := t6
      have tlt := t6.lt
      clear t hsrc rM hSy hOk t6
      go_wp2
      go_loopw [11] (fun sj ws => ∃ j : Nat, j ≤ sn ∧ sj = .int .i64 j ∧ Below W6.heap.size W6 ws) (fun sj _ => sn - (intOf sj).toNat)
      case atStart => exact ⟨0, by omega, rfl, Below.refl _ _⟩
      case round =>
        obtain ⟨j, hj, rfl, hBs⟩ := hrel
        have zs := hBs.size
        have c3s : wr.cell? ⟨b, 3, none⟩ = some (.slice av sn cv) := ((bcell hBs).1 b 3 blt).trans c3
        by_cases hlj : j < sn
        · have hlj' : (j : Int) < (sn : Int) := by omega
          rcases hsrc'.out with hz | ⟨bv, ov, rfl, lv, wv⟩
          · omega
          have v0 := (wv.below hBs lv).at_ j hlj
          have u0 := (wd6.out.below hBs wd6.out.lt).at_ j hlj
          rw [Nat.zero_add] at u0
          generalize S.v j = y at *
          clear wv
          go_upto_region 20 with (fail)
          go_region_held3 (fun w' : World => w'.cell? ⟨b, 3, none⟩ = some (.slice (some ⟨bv, ov, none⟩) sn cv) ∧ w'.cell? ⟨bv, ov + j, none⟩ = some (.int .u64 (y : Nat)) ∧ w'.cell? ⟨x5, j, none⟩ = some (.int .u64 (y : Nat))) (go_keep) (fail)
          go_wp2
          go_roundw
          case rel => exact ⟨j + 1, by omega, by go_num, by (repeat' (first | (with_reducible first | exact Below.refl _ _ | assumption | refine Below.alloc ?_ ?_ _ | refine Below.drew ?_ | refine below_drewN ?_ _ | refine Below.setCell ?_ ?_ _ | refine below_via (by with_reducible assumption) ?_ ?_) | omega | (simp only [szs]; omega) | (simp only [szs] at *; omega)))⟩
          case measure => (simp [intOf]; omega)
        · have hlj' : ¬ (j : Int) < (sn : Int) := by omega
          obtain rfl : j = sn := by omega
          have g0 : wr.cell? ⟨b, 0, none⟩ = some (.int .i64 (j : Nat)) := ((bcell hBs).1 b 0 blt).trans c0
          have g1 : wr.cell? ⟨b, 1, none⟩ = some (.int .i64 (sp : Nat)) := ((bcell hBs).1 b 1 blt).trans c1
          have g2 : wr.cell? ⟨b, 2, none⟩ = some (.slice am sm cm) := ((bcell hBs).1 b 2 blt).trans c2
          have h0 : wr.cell? ⟨bs, 0, none⟩ = some (.int .i64 (j : Nat)) := ((bcell hBs).1 bs 0 tlt).trans f1
          have h1 : wr.cell? ⟨bs, 1, none⟩ = some (.int .i64 (sp : Nat)) := ((bcell hBs).1 bs 1 tlt).trans f2
          have h2 : wr.cell? ⟨bs, 2, none⟩ = some (.slice a5 sm c5) := ((bcell hBs).1 bs 2 tlt).trans f3
          have cR := vrankSameW (j : Nat) (sp : Nat) a5 am sm c5 cm (by omega) R5 (okR R sm) ns'.out.ok (okR_ok hOk'.out) (fun i hi k hk => by rw [okR_at hi hk]; exact same_sums (sy'.out.sum i (by rw [hsm.out]; exact hi) k hk) (hSy'.out.sum i (by rw [hsm.out]; exact hi) k hk)) wr.drew (r6.out.to ((hBs.drew)) (Nat.le_refl _)) ((okR_rows rM'.out).to ((hBs.drew)) (Nat.le_refl _))
          have hBe : Hid (Below w.heap.size w wr.drew) := below_via hBs.drew I6.out.b I6.out.b.size
          unfold rankV at cR
          clear f1 f2 f3 f4 f5 f6 f7 c0 c1 c2 c3 c3s r6 wd6 rM' hSy' hOk' hsrc' ns' sy' I6 hM' hB0
          go_upto_region 22 with (fail)
          go_region_held3 (fun w' : World => (w'.cell? ⟨b, 0, none⟩ = some (.int .i64 (j : Nat)) ∧ w'.cell? ⟨b, 1, none⟩ = some (.int .i64 (sp : Nat)) ∧ w'.cell? ⟨b, 2, none⟩ = some (.slice am sm cm)) ∧ (w'.cell? ⟨bs, 0, none⟩ = some (.int .i64 (j : Nat)) ∧ w'.cell? ⟨bs, 1, none⟩ = some (.int .i64 (sp : Nat)) ∧ w'.cell? ⟨bs, 2, none⟩ = some (.slice a5 sm c5))) (go_keep)
            ((go_at_call 16; (with_reducible refine cR.mono ?_); rintro e w9 ⟨rfl, b9⟩; have hend : Hid (Below w.heap.size w w9) := below_via b9 hBe.out hBe.out.size; have kb := fun o => (bcell b9).1 b o (by simp only [szs]; omega); have kbs := fun o => (bcell b9).1 bs o (by simp only [szs]; omega); clear b9))
          go_wp2
          (try go_ret)
          exact ⟨rfl, hend.out⟩
end Go.Proofs.Ytdbolfmmlmoiaaa

namespace Go.Proofs.Ytdbolfmmlmoiaaa
open Go.RowKit Go.Proofs
set_option linter.unusedVariables false
set_option linter.unusedSimpArgs false
theorem ials_length (z : Nat → Int) (n : Nat) : (ials z n).length = n := by simp [ials]
theorem ials_one (z : Nat → Int) (n : Nat) : ∀ u ∈ ials z n, u.oneCell' = true := fun u hu => by
  simp only [ials, List.mem_map] at hu
  obtain ⟨i, _, rfl⟩ := hu
  rfl
theorem ials_lie {w : World} {b off n : Nat} {z : Nat → Int} (t : IdsIn w b off n z) (j : Nat) (u : Value) (h : (ials z n)[j]? = some u) : w.cell? ((⟨b, off, none⟩ : Addr).add j) = some u := by
  have hj : j < n := by rw [← ials_length z n]; exact (List.getElem?_eq_some_iff.1 h).1
  rw [ials_get z n j hj] at h
  cases h
  rw [add_none]
  exact t.at_ j hj
/-- append of integers onto an empty row: a copy of one's own. -/
theorem wpList_copyI {ops : Array Oper} {rest : List Oper} {o : Oper} {a : Act} {w : World} {Q : Exit → Act → World → Prop} (hgd : o.guard = none) (s x : Operand)
    (ho : o.op = .call { callee := .builtin .append, args := #[s, x], argTypes := #[36, 36] }) (base b0 : Nat) (hs : a.eval s = .slice (some ⟨b0, 0, none⟩) 0 0)
    (hown0 : w.ownsRow base 3 1 (.slice (some ⟨b0, 0, none⟩) 0 0) 0 []) (hbase : base ≤ w.heap.size) (B : Nat) (ad : Option Addr) (n c : Nat) (z : Nat → Int) (hx : a.eval x = .slice ad n c) (hS : IdsAt B w ad n z) (hn : n ≤ 1000000)
    (h : ∀ g cap w', w'.ownsRow base 3 1 (.slice (some ⟨g, 0, none⟩) n cap) n (ials z n) → Below base w w' → wpList Try.prog ops Q rest (a.put o.dst (.slice (some ⟨g, 0, none⟩) n cap)) w') : wpList Try.prog ops Q (o :: rest) a w := by
  obtain ⟨i0, hi, hz1, hz2, hz0⟩ := idInfo
  by_cases h0 : n = 0
  · subst h0
    have src : Go.Src Try.prog i0.size 36 (.slice ad 0 c) 0 [] w := by
      cases ad with
      | none => exact Go.Src.ofNil w Try.underlying36 c
      | some a => exact Go.Src.ofSlice w Try.underlying36 a 0 c [] (by simp) (fun j u h => by simp at h) (fun u h => by cases h)
    have hr := run_append_room_src w 36 36 o.type 3 i0 Try.underlying36 hi b0 0 0 0 (.slice ad 0 c) 0 _ src (by omega) (fun j h => by simp at h) (fun j h => by simp at h)
    refine wpList_plain hgd fun K' hK => ?_
    unfold Oper.wp execOp
    simp only [ho, resolve, invoke, builtin, Sem.run_bind, Sem.run_pure, Result.andThen_ok, List.map_toArray, List.map_cons, List.map_nil, hs, hx, hr]
    exact hK _ _ (h b0 0 w hown0 (Below.refl _ _))
  · rcases hS with h1 | ⟨b, off, rfl, hl, hB⟩
    · exact absurd h1 h0
    refine wpList_append_lies _ hgd s x 36 ho base 3 i0 _ 1 8 Try.underlying36 hi hz0 hz1 hz2 rfl (by decide) _ 0 [] hs hown0 ⟨b, off, none⟩ n c (ials z n) hx (by rw [ials_length, Nat.mul_one]) (ials_lie hB) (ials_one z n) (by omega) (by unfold maxLen; omega) (by omega) hbase w.heap.size rfl ?_
    intro g cap w' hown hg _ _
    rw [Nat.zero_add, List.nil_append] at hown
    rw [Nat.zero_add]
    exact h g cap w' hown ((Below.refl base w).grown hg hbase (fun k hk => (hown0.lt k hk).1))
theorem ints_at {w : World} {base g n cap : Nat} {z : Nat → Int} (h : w.ownsRow base 3 1 (.slice (some ⟨g, 0, none⟩) n cap) n (ials z n)) {i : Nat} (hi : i < n) : w.cell? ⟨g, i, none⟩ = some (.int .i64 (z i)) := by
  have := World.ownsRow.cells h (g := g) rfl i _ (ials_get z n i hi)
  rw [add_none, Nat.zero_add] at this
  exact this
theorem own_cap {w : World} {base g n cap size : Nat} {e : TypeId} {xs : List Value} (h : w.ownsRow base e size (.slice (some ⟨g, 0, none⟩) n cap) n xs) : n ≤ cap ∧ cap ≤ maxLen := by
  rcases h.2 with ⟨hv, _⟩ | ⟨g', cap', cur, hv, h1, h2, h3, h4, h5, h6⟩
  · cases hv
  · cases hv; exact ⟨h3, h4⟩
/-- A deed with lists of one's own. -/
def Dd.own (d : Dd) (gl lc gv vc : Nat) : Dd := { d with L := ⟨some ⟨gl, 0, none⟩, d.L.n, lc, d.L.V, d.L.K⟩, ad := some ⟨gv, 0, none⟩, c := vc }
theorem Dd.own_small (d : Dd) (gl lc gv vc : Nat) : (d.own gl lc gv vc).small = d.small := rfl
def Dd.ownL (d : Dd) (gl lc : Nat) : Dd := { d with L := ⟨some ⟨gl, 0, none⟩, d.L.n, lc, d.L.V, d.L.K⟩ }
theorem DdB.setL {w : World} {b : Nat} {d : Dd} (h : DdB w b d) (gl lc : Nat) : DdB (w.setCell ⟨b, 5, none⟩ (.slice (some ⟨gl, 0, none⟩) d.L.n lc)) b (d.ownL gl lc) := by
  have ho : ∀ j, j ≠ 5 → (w.setCell ⟨b, 5, none⟩ (.slice (some ⟨gl, 0, none⟩) d.L.n lc)).cell? ⟨b, j, none⟩ = w.cell? ⟨b, j, none⟩ := fun j hj => World.cell?_setCell_other _ _ _ _ (by intro e; simp only [Addr.mk.injEq] at e; omega)
  exact ⟨(ho 0 (by decide)).trans h.c0, (ho 1 (by decide)).trans h.c1, (ho 2 (by decide)).trans h.c2, (ho 3 (by decide)).trans h.c3, (ho 4 (by decide)).trans h.c4, World.cell?_setCell_same' _ _ _ (by rw [h.c5]; rfl), (ho 6 (by decide)).trans h.c6, fun o => by rw [World.frozen?_setCell]; exact h.fr o, by simpa using h.lt⟩
theorem DdB.setV {w : World} {b : Nat} {d : Dd} {gl lc : Nat} (h : DdB w b (d.ownL gl lc)) (gv vc : Nat) : DdB (w.setCell ⟨b, 6, none⟩ (.slice (some ⟨gv, 0, none⟩) d.m vc)) b (d.own gl lc gv vc) := by
  have ho : ∀ j, j ≠ 6 → (w.setCell ⟨b, 6, none⟩ (.slice (some ⟨gv, 0, none⟩) d.m vc)).cell? ⟨b, j, none⟩ = w.cell? ⟨b, j, none⟩ := fun j hj => World.cell?_setCell_other _ _ _ _ (by intro e; simp only [Addr.mk.injEq] at e; omega)
  exact ⟨(ho 0 (by decide)).trans h.c0, (ho 1 (by decide)).trans h.c1, (ho 2 (by decide)).trans h.c2, (ho 3 (by decide)).trans h.c3, (ho 4 (by decide)).trans h.c4, (ho 5 (by decide)).trans h.c5, World.cell?_setCell_same' _ _ _ (by rw [h.c6]; rfl), fun o => by rw [World.frozen?_setCell]; exact h.fr o, by simpa using h.lt⟩
theorem DdB.cellsL {w : World} {b : Nat} {d : Dd} {gl lc : Nat} (h : DdB w b (d.ownL gl lc)) : w.cell? ⟨b, 0, none⟩ = some (.int .i64 d.what) ∧ w.cell? ⟨b, 1, none⟩ = some (.int .i64 d.a) ∧ w.cell? ⟨b, 2, none⟩ = some (.int .i64 d.b) ∧ w.cell? ⟨b, 3, none⟩ = some (.int .i64 d.n) ∧ w.cell? ⟨b, 4, none⟩ = some (.int .u64 (d.k : Nat)) ∧ w.cell? ⟨b, 5, none⟩ = some (.slice (some ⟨gl, 0, none⟩) d.L.n lc) ∧ w.cell? ⟨b, 6, none⟩ = some (.slice d.ad d.m d.c) := h.cells
theorem DdB.cellsO {w : World} {b : Nat} {d : Dd} {gl lc gv vc : Nat} (h : DdB w b (d.own gl lc gv vc)) : w.cell? ⟨b, 0, none⟩ = some (.int .i64 d.what) ∧ w.cell? ⟨b, 1, none⟩ = some (.int .i64 d.a) ∧ w.cell? ⟨b, 2, none⟩ = some (.int .i64 d.b) ∧ w.cell? ⟨b, 3, none⟩ = some (.int .i64 d.n) ∧ w.cell? ⟨b, 4, none⟩ = some (.int .u64 (d.k : Nat)) ∧ w.cell? ⟨b, 5, none⟩ = some (.slice (some ⟨gl, 0, none⟩) d.L.n lc) ∧ w.cell? ⟨b, 6, none⟩ = some (.slice (some ⟨gv, 0, none⟩) d.m vc) := h.cells
/-- It lies in memory. -/
theorem Dd.own_at {w : World} {d : Dd} {B0 B1 B2 gl lc gv vc : Nat} (hd : d.At B0 w) (hl : OwnT w B1 (.slice (some ⟨gl, 0, none⟩) d.L.n lc) d.L.n d.L.V d.L.K) (hv : w.ownsRow B2 3 1 (.slice (some ⟨gv, 0, none⟩) d.m vc) d.m (ials d.V d.m)) : (d.own gl lc gv vc).At w.heap.size w := by
  obtain ⟨a, c, e, h1, h2, h3⟩ := hl.trms
  obtain ⟨rfl, rfl⟩ : some ⟨gl, 0, none⟩ = a ∧ lc = c := by cases e; exact ⟨rfl, rfl⟩
  refine ⟨hd.what, hd.a, hd.b, hd.n, hd.k, ⟨hd.L.V1, hd.L.V2, hd.L.K1, h1, by unfold maxLen at h2; show lc ≤ _; omega⟩, hd.V, h3, ?_⟩
  have hlt := (World.ownsRow.lt hv gv rfl).2
  exact Or.inr ⟨gv, 0, rfl, hlt, hlt, fun i hi => by rw [Nat.zero_add]; exact ints_at hv hi⟩
/-- Blocks of T may be scribbled over: cells stay cells. -/
structure Scr (T : Nat → Prop) (w w' : World) : Prop where
  k : KeepO T w w'
  c : ∀ b o v, w.cell? ⟨b, o, none⟩ = some v → ∃ v', w'.cell? ⟨b, o, none⟩ = some v'
  f : ∀ a, a.block < w.heap.size → w'.frozen? a = w.frozen? a
theorem Scr.refl (T : Nat → Prop) (w : World) : Scr T w w := ⟨KeepO.refl _ _, fun _ _ v h => ⟨v, h⟩, fun _ _ => rfl⟩
theorem cell_set {w : World} {a a' : Addr} {v u : Value} (h : w.cell? a' = some u) : ∃ v', (w.setCell a v).cell? a' = some v' := by
  by_cases e : a = a'
  · subst e; exact ⟨v, World.cell?_setCell_same' _ _ _ (by rw [h]; rfl)⟩
  · exact ⟨u, by rw [World.cell?_setCell_other _ _ _ _ e]; exact h⟩
theorem Scr.set {T : Nat → Prop} {w w' : World} (h : Scr T w w') (b o : Nat) (v : Value) (hT : T b) : Scr T w (w'.setCell ⟨b, o, none⟩ v) :=
  ⟨h.k.trans (KeepO.setCell w' b o v hT) (fun _ _ x => x), fun b' o' u hu => by obtain ⟨v1, h1⟩ := h.c b' o' u hu; exact cell_set h1, fun a ha => by rw [World.frozen?_setCell]; exact h.f a ha⟩
theorem Scr.drew {T : Nat → Prop} {w w' : World} (h : Scr T w w') : Scr T w w'.drew := ⟨⟨h.k.os, h.k.tape, h.k.output, h.k.size, h.k.block⟩, h.c, h.f⟩
theorem Scr.drewN {T : Nat → Prop} {w w' : World} (h : Scr T w w') (n : Nat) : Scr T w (w'.drewN n) := ⟨⟨h.k.os, h.k.tape, h.k.output, h.k.size, h.k.block⟩, h.c, h.f⟩
end Go.Proofs.Ytdbolfmmlmoiaaa
