/-
  Joined texts: Errors that are codes, compared. The head of all statements of layer 9, over what its calls answer; keys; the first point; signatures compared. Whether signatures hold; the head of layer 9's statements. The walks of the document's own answers for layer 7 (package obolref07): numbers modulo R, points, their sums. The walks of the document's own answers for layer 7 (package obolref07): points, their sums and multiples. Layer 9: keys, the first point, signatures compared; the statement on points, over what the calls answer. The walks of the document's own answers for layer 7: a point's bytes.
-/
import Derived.Test.YtdhbkhmknnlmnaaDoorJ1
import Derived.Test.YtdhbkhmknnlmnaaDoorJ2
import Derived.Test.YtdhbkhmknnlmnaaDoorJ5
import Derived.Lib.SlBytesConst
import Derived.Test.YtdhbkhmknnlmnaaDoorJ7
import Derived.Test.YtdhbkhmknnlmnaaDoorJ3

namespace Go.Proofs.YtdhbkhmknnlmnaaDoor
open Go.RowKit Go.Proofs
set_option linter.unusedVariables false
set_option linter.unusedSimpArgs false

theorem codeInfo : ∃ i, Tryd.prog.info? 31 = some i ∧ i.comparable = true := by
  have h : (Tryd.prog.info? 31).map (·.comparable) = some true := by kernel_rfl
  cases hi : Tryd.prog.info? 31 with
  | none => rw [hi] at h; cases h
  | some i => rw [hi] at h; exact ⟨i, rfl, Option.some.inj h⟩
/-- Two errors that are codes are compared as their numbers. -/
theorem equalIn_code (d : Nat) (w : World) (a b : Int) : (Op.equalIn (d + 2) 27 (.iface 31 (.int .i64 a)) (.iface 31 (.int .i64 b))).run Tryd.prog w = .ok (a == b) w := by
  obtain ⟨i, hi, hc⟩ := codeInfo
  simp [Op.equalIn, run_underlying Tryd.underlying27, run_underlying Tryd.underlying31, typeInfo, hi, hc]
theorem eql_code (w : World) (a b : Int) : (binOp .eql 27 (.iface 31 (.int .i64 a)) (.iface 31 (.int .i64 b))).run Tryd.prog w = .ok (.bool (a == b)) w := by
  have h := equalIn_code (Op.maxDepth - 2) w a b
  have e : Op.maxDepth - 2 + 2 = Op.maxDepth := by decide +kernel
  rw [e] at h
  simp only [binOp]
  simp [Op.equal, h]
end Go.Proofs.YtdhbkhmknnlmnaaDoor

namespace Go.Proofs.YtdhbkhmknnlmnaaDoor
open Go.RowKit Go.Proofs
set_option linter.unusedVariables false
set_option linter.unusedSimpArgs false
attribute [local go_sem ↓] Go.wp_at_zero Go.wp_at_succ
theorem conv_lit (w : World) (x : Value) : (convert 34 34 (.slice (some ⟨w.heap.size, 0, none⟩) 1 1)).run Tryd.prog (w.alloc (.cells #[x] 5)) = .ok (.slice (some ⟨w.heap.size, 0, none⟩) 1 1) (w.alloc (.cells #[x] 5 (1, 2))) :=
  Lib.run_convert_bytes_const w 34 5 #[x] 1 1 Tryd.underlying34 Tryd.underlying5
theorem bys_lit (w : World) (n : Nat) (t : TypeId) : Bys (w.alloc (.cells #[.int .u8 (n : Nat)] t (1, 2))) w.heap.size 0 1 (fun _ => n) := by
  refine ⟨by simp, fun i hi => ?_⟩
  obtain rfl : i = 0 := by omega
  rw [Nat.zero_add, World.cell?_alloc_mark]
  rfl
theorem bys_m (w : World) (t : TypeId) : Bys (w.alloc (.cells #[.int .u8 109] t (1, 2))) w.heap.size 0 1 (fun _ => 109) := bys_lit w 109 t
theorem bys_n (w : World) (t : TypeId) : Bys (w.alloc (.cells #[.int .u8 110] t (1, 2))) w.heap.size 0 1 (fun _ => 110) := bys_lit w 110 t
set_option maxRecDepth 4000 in
set_option maxHeartbeats 4000000 in
theorem up9_core (px py ax ay z : Int) (w : World)
   (c5 : ∀ W, Below w.heap.size w W → Calls Tryd.prog 10 #[.int .u64 5] W fun e w' => e = .returned (.tuple #[.agg #[.int .u64 px, .int .u64 py], .nilIface]) ∧ Below W.heap.size W w')
   (c0 : ∀ W, Below w.heap.size w W → Calls Tryd.prog 10 #[.int .u64 0] W fun e w' => e = .returned (.tuple #[.agg #[.int .u64 0, .int .u64 0], .iface 31 (.int .i64 1)]) ∧ Below W.heap.size W w')
   (cs : ∀ W g, Below w.heap.size w W → Bys W g 0 1 (fun _ => 109) → Calls Tryd.prog 14 #[.int .u64 5, .int .u64 7, .slice (some ⟨g, 0, none⟩) 1 1] W fun e w' => e = .returned (.tuple #[.agg #[.int .u64 ax, .int .u64 ay, .int .u64 z], .nilIface]) ∧ Below W.heap.size W w')
   (cv : ∀ W g, Below w.heap.size w W → Bys W g 0 1 (fun _ => 109) → Calls Tryd.prog 18 #[.agg #[.int .u64 px, .int .u64 py], .slice (some ⟨g, 0, none⟩) 1 1, .agg #[.int .u64 ax, .int .u64 ay, .int .u64 z]] W fun e w' => e = .returned .nilIface ∧ Below W.heap.size W w')
   (cw : ∀ W g, Below w.heap.size w W → Bys W g 0 1 (fun _ => 110) → Calls Tryd.prog 18 #[.agg #[.int .u64 px, .int .u64 py], .slice (some ⟨g, 0, none⟩) 1 1, .agg #[.int .u64 ax, .int .u64 ay, .int .u64 z]] W fun e w' => e = .returned (.iface 31 (.int .i64 10)) ∧ Below W.heap.size W w') :
    Calls Tryd.prog 9 #[] w fun e w' => e = .returned (.bool true) ∧ Below w.heap.size w w' := by
  have ec := fun w => eql_code w 1 1
  have hcv := conv_lit
  have ec2 := fun w => eql_code w 10 10
  go_enter Tryd.func9, Tryd.ntmps9
  go_upto_region 2 with (go_at_call 10; (with_reducible refine (c5 _ (Below.refl _ _)).mono ?_); rintro e w1 ⟨rfl, b1⟩)
  have z1 := b1.size
  have t1 : Two (w1.alloc (.cells #[.int .u64 px, .int .u64 py] 25)) w1.heap.size (.int .u64 px) (.int .u64 py) := by (repeat' (first | (with_reducible first | assumption | exact Two.own (by with_reducible assumption) | refine Two.set ?_ _ _ | refine Own2.set ?_ _ _ | refine Two.drew ?_ | refine Two.drewN ?_ _ | refine Own2.drew ?_ | refine Own2.drewN ?_ _ | (refine Two.new ?_; simp only [szs]; done) | (refine Own2.new ?_; simp only [szs]; done) | refine Two.alloc ?_ _ | refine Own2.alloc ?_ _ | refine Two.far ?_ ?_ _ _ | refine Own2.far ?_ ?_ _ _ | refine Two.via (by with_reducible assumption) ?_ ?_ | refine Own2.via (by with_reducible assumption) ?_ ?_) | omega | (simp only [szs]; omega)))
  have hB1 : Below w.heap.size w (w1.alloc (.cells #[.int .u64 px, .int .u64 py] 25)) := by (repeat' (first | (with_reducible first | exact Below.refl _ _ | assumption | refine Below.alloc ?_ ?_ _ | refine Below.drew ?_ | refine below_drewN ?_ _ | refine Below.setCell ?_ ?_ _ | refine below_via (by with_reducible assumption) ?_ ?_) | omega | (simp only [szs]; omega) | (simp only [szs] at *; omega)))
  generalize (w1.alloc (.cells #[.int .u64 px, .int .u64 py] 25)) = W at *
  generalize w1.heap.size = ba at *
  clear b1 z1 c5
  have hBn := hB1.size
  go_upto_region 3 with (go_at_call 14; (with_reducible refine (cs _ _ (by (repeat' (first | (with_reducible first | exact Below.refl _ _ | assumption | refine Below.alloc ?_ ?_ _ | refine Below.drew ?_ | refine below_drewN ?_ _ | refine Below.setCell ?_ ?_ _ | refine below_via (by with_reducible assumption) ?_ ?_) | omega | (simp only [szs]; omega) | (simp only [szs] at *; omega)))) (bys_m _ _)).mono ?_); rintro e w2 ⟨rfl, b2⟩)
  have z2 := b2.size
  have lW := t1.lt
  simp only [szs] at z2
  have t2 : Two (w2.alloc (.cells #[.int .u64 ax, .int .u64 ay, .int .u64 z] 36)) ba (.int .u64 px) (.int .u64 py) := by (repeat' (first | (with_reducible first | assumption | exact Two.own (by with_reducible assumption) | refine Two.set ?_ _ _ | refine Own2.set ?_ _ _ | refine Two.drew ?_ | refine Two.drewN ?_ _ | refine Own2.drew ?_ | refine Own2.drewN ?_ _ | (refine Two.new ?_; simp only [szs]; done) | (refine Own2.new ?_; simp only [szs]; done) | refine Two.alloc ?_ _ | refine Own2.alloc ?_ _ | refine Two.far ?_ ?_ _ _ | refine Own2.far ?_ ?_ _ _ | refine Two.via (by with_reducible assumption) ?_ ?_ | refine Own2.via (by with_reducible assumption) ?_ ?_) | omega | (simp only [szs]; omega)))
  have t3 : Three (w2.alloc (.cells #[.int .u64 ax, .int .u64 ay, .int .u64 z] 36)) w2.heap.size (.int .u64 ax) (.int .u64 ay) (.int .u64 z) := by (repeat' (first | (with_reducible first | assumption | exact Three.own (by with_reducible assumption) | refine Three.set ?_ _ _ _ | refine Own3.set ?_ _ _ _ | refine Three.drew ?_ | refine Three.drewN ?_ _ | refine Own3.drew ?_ | refine Own3.drewN ?_ _ | (refine Three.new ?_; simp only [szs]; done) | (refine Own3.new ?_; simp only [szs]; done) | refine Three.alloc ?_ _ | refine Own3.alloc ?_ _ | refine Three.far ?_ ?_ _ _ | refine Own3.far ?_ ?_ _ _ | refine Three.via (by with_reducible assumption) ?_ ?_ | refine Own3.via (by with_reducible assumption) ?_ ?_) | omega | (simp only [szs]; omega)))
  have hB2 : Below w.heap.size w (w2.alloc (.cells #[.int .u64 ax, .int .u64 ay, .int .u64 z] 36)) := by (repeat' (first | (with_reducible first | exact Below.refl _ _ | assumption | refine Below.alloc ?_ ?_ _ | refine Below.drew ?_ | refine below_drewN ?_ _ | refine Below.setCell ?_ ?_ _ | refine below_via (by with_reducible assumption) ?_ ?_) | omega | (simp only [szs]; omega) | (simp only [szs] at *; omega)))
  have n1 : ba ≠ w2.heap.size := by omega
  have n2 : w2.heap.size ≠ ba := by omega
  generalize (w2.alloc (.cells #[.int .u64 ax, .int .u64 ay, .int .u64 z] 36)) = V at *
  generalize w2.heap.size = bs at *
  clear b2 z2 cs t1 hB1 lW hBn
  have hBn := hB2.size
  go_upto_region 4 with (go_at_call 10; (with_reducible refine (c0 _ hB2).mono ?_); rintro e w3 ⟨rfl, b3⟩)
  have z3 := b3.size
  have l2 := t2.lt
  have l3 := t3.lt
  have t4 : Two (w3.alloc (.cells #[.int .u64 0, .int .u64 0] 25)) ba (.int .u64 px) (.int .u64 py) := by (repeat' (first | (with_reducible first | assumption | exact Two.own (by with_reducible assumption) | refine Two.set ?_ _ _ | refine Own2.set ?_ _ _ | refine Two.drew ?_ | refine Two.drewN ?_ _ | refine Own2.drew ?_ | refine Own2.drewN ?_ _ | (refine Two.new ?_; simp only [szs]; done) | (refine Own2.new ?_; simp only [szs]; done) | refine Two.alloc ?_ _ | refine Own2.alloc ?_ _ | refine Two.far ?_ ?_ _ _ | refine Own2.far ?_ ?_ _ _ | refine Two.via (by with_reducible assumption) ?_ ?_ | refine Own2.via (by with_reducible assumption) ?_ ?_) | omega | (simp only [szs]; omega)))
  have t5 : Three (w3.alloc (.cells #[.int .u64 0, .int .u64 0] 25)) bs (.int .u64 ax) (.int .u64 ay) (.int .u64 z) := by (repeat' (first | (with_reducible first | assumption | exact Three.own (by with_reducible assumption) | refine Three.set ?_ _ _ _ | refine Own3.set ?_ _ _ _ | refine Three.drew ?_ | refine Three.drewN ?_ _ | refine Own3.drew ?_ | refine Own3.drewN ?_ _ | (refine Three.new ?_; simp only [szs]; done) | (refine Own3.new ?_; simp only [szs]; done) | refine Three.alloc ?_ _ | refine Own3.alloc ?_ _ | refine Three.far ?_ ?_ _ _ | refine Own3.far ?_ ?_ _ _ | refine Three.via (by with_reducible assumption) ?_ ?_ | refine Own3.via (by with_reducible assumption) ?_ ?_) | omega | (simp only [szs]; omega)))
  have hB3 : Below w.heap.size w (w3.alloc (.cells #[.int .u64 0, .int .u64 0] 25)) := by (repeat' (first | (with_reducible first | exact Below.refl _ _ | assumption | refine Below.alloc ?_ ?_ _ | refine Below.drew ?_ | refine below_drewN ?_ _ | refine Below.setCell ?_ ?_ _ | refine below_via (by with_reducible assumption) ?_ ?_) | omega | (simp only [szs]; omega) | (simp only [szs] at *; omega)))
  generalize (w3.alloc (.cells #[.int .u64 0, .int .u64 0] 25)) = V3 at *
  clear b3 z3 c0 t2 t3 hB2 l2 l3 hBn
  have ⟨d1, d2, d3, d4, d5⟩ := t4
  have ⟨e1, e2, e3, e4, e5, e6, e7⟩ := t5
  have hBn := hB3.size
  go_wp2_with (go_at_call 18; first
    | ((with_reducible refine (cv _ _ (by (repeat' (first | (with_reducible first | exact Below.refl _ _ | assumption | refine Below.alloc ?_ ?_ _ | refine Below.drew ?_ | refine below_drewN ?_ _ | refine Below.setCell ?_ ?_ _ | refine below_via (by with_reducible assumption) ?_ ?_) | omega | (simp only [szs]; omega) | (simp only [szs] at *; omega)))) (bys_m _ _)).mono ?_); rintro e w4 ⟨rfl, b4⟩; have z4 := b4.size; (try simp only [szs] at z4); have q4 := own2 b4 ba (by first | omega | (simp only [szs]; omega)); have q4' := own3 b4 bs (by first | omega | (simp only [szs]; omega)))
    | ((with_reducible refine (cw _ _ (by (repeat' (first | (with_reducible first | exact Below.refl _ _ | assumption | refine Below.alloc ?_ ?_ _ | refine Below.drew ?_ | refine below_drewN ?_ _ | refine Below.setCell ?_ ?_ _ | refine below_via (by with_reducible assumption) ?_ ?_) | omega | (simp only [szs]; omega) | (simp only [szs] at *; omega)))) (bys_n _ _)).mono ?_); rintro e w5 ⟨rfl, b5⟩; have z5 := b5.size; (try simp only [szs] at z5)))
  go_ret -- @HERE@
  exact ⟨rfl, by (repeat' (first | (with_reducible first | exact Below.refl _ _ | assumption | refine Below.alloc ?_ ?_ _ | refine Below.drew ?_ | refine below_drewN ?_ _ | refine Below.setCell ?_ ?_ _ | refine below_via (by with_reducible assumption) ?_ ?_) | omega | (simp only [szs]; omega) | (simp only [szs] at *; omega)))⟩
end Go.Proofs.YtdhbkhmknnlmnaaDoor

namespace Go.Proofs.YtdhbkhmknnlmnaaDoor
open Go.RowKit Go.Proofs
set_option linter.unusedVariables false
set_option linter.unusedSimpArgs false
attribute [local irreducible] Ob.gmul Ob.gadd

theorem inS_isG {x y : Nat} (h : inS x y = true) : Ob.isG x y = true := by
  unfold inS at h
  cases hg : Ob.isG x y with
  | true => rfl
  | false => rw [hg] at h; cases h
theorem edV_inS {x y : Nat} (h : inS x y = true) : edV (Ob.ofG x y) = .agg #[.int .u64 (x : Nat), .int .u64 (y : Nat)] := (edV_yes (inS_isG h)).symm
/-- The question of what is handed in. -/
def verQ (x y ax ay : Nat) (u : Nat → Nat) (m : Nat) : Nat := askN (Ob.edN (Ob.ofG ax ay)) (Ob.edN (Ob.ofG x y)) u m
/-- Whether a signature that may be one holds. -/
def verS (x y ax ay z : Nat) (u : Nat → Nat) (m : Nat) : Bool :=
  isP (Ob.gmul Ob.gGen z) ((Ob.gadd (Ob.ofG ax ay) (Ob.gmul (Ob.ofG x y) (verQ x y ax ay u m))).1.val : Nat) ((Ob.gadd (Ob.ofG ax ay) (Ob.gmul (Ob.ofG x y) (verQ x y ax ay u m))).2.val : Nat)
def verB (x y ax ay z : Nat) (u : Nat → Nat) (m : Nat) : Bool := fitB x y ax ay z && verS x y ax ay z u m
/-- What Verify answers. -/
def verV (s : Bool) : Value := if s = true then .nilIface else .iface 31 (.int .i64 10)
theorem fitB_parts {x y ax ay z : Nat} (h : fitB x y ax ay z = true) : inS x y = true ∧ inS ax ay = true ∧ z < 72057593894066549 := by
  unfold fitB at h
  simp only [Bool.and_eq_true] at h
  exact ⟨h.2.1, h.2.2.1, by have := of_decide_eq_true h.2.2.2; omega⟩
theorem sverW (x y ax ay z : Nat) (hx : x < 18446744073709551616) (hy : y < 18446744073709551616) (hax : ax < 18446744073709551616) (hay : ay < 18446744073709551616) (ad : Option Addr) (m c : Nat) (hm : m ≤ 140737488351232) (u : Nat → Nat) (hu : ∀ i, u i < 256) (w : World) (hT : Tabs w) (hS : SrcY w.heap.size w ad m u) :
    Calls Tryd.prog 18 #[.agg #[.int .u64 x, .int .u64 y], .slice ad m c, .agg #[.int .u64 ax, .int .u64 ay, .int .u64 z]] w fun e w' => e = .returned (verV (verB x y ax ay z u m)) ∧ Below w.heap.size w w' := by
  have cf := sfitW x y ax ay z hx hy hax hay
  unfold verB
  cases h : fitB x y ax ay z with
  | false =>
    rw [h] at cf
    exact sver_no _ _ _ _ _ _ w cf
  | true =>
    rw [h] at cf
    obtain ⟨h1, h2, h3⟩ := fitB_parts h
    have cq := fun (W : World) (hB : Below w.heap.size w W) (hs : SrcY W.heap.size W ad m u) => squestW (Ob.ofG_on ax ay) (Ob.ofG_on x y) ad m c hm u hu W (hT.below hB hT.lt) hs
    rw [edV_inS h1, edV_inS h2] at cq
    have cm := emulE (Ob.ofG_on x y) (verQ x y ax ay u m) (word_rest _)
    rw [edV_inS h1] at cm
    have ca := eaddE (Ob.ofG_on ax ay) (Ob.onG_mul (Ob.ofG_on x y) (verQ x y ax ay u m))
    rw [edV_inS h2] at ca
    rw [Bool.true_and]
    exact sver_core _ _ _ _ _ (verQ x y ax ay u m : Nat) _ _ _ _ _ _ ad m c u _ w hS cf cq (sfirstW z (by omega)) cm ca (fun w => eq_isP w _ _ _)
theorem inS_S {u : Ob.Ep} (h : Ob.onG u) (hs : Ob.gmul u Ob.SE = Ob.gzero) : inS u.1.val u.2.val = true := by
  unfold inS
  rw [Ob.on_isG h, Ob.ofG_val h, Bool.true_and]
  exact decide_eq_true hs
theorem isP_same (u : Ob.Ep) : isP u (u.1.val : Nat) (u.2.val : Nat) = true := by unfold isP; simp
theorem isP_iff (u v : Ob.Ep) : isP u (v.1.val : Nat) (v.2.val : Nat) = decide (u = v) := by
  by_cases h : u = v
  · subst h
    rw [isP_same, decide_eq_true rfl]
  · rw [decide_eq_false h]
    cases hb : isP u (v.1.val : Nat) (v.2.val : Nat) with
    | false => rfl
    | true =>
      exfalso
      unfold isP at hb
      rw [Bool.and_eq_true, beq_iff_eq, beq_iff_eq] at hb
      obtain ⟨h1, h2⟩ := hb
      exact h (Prod.ext (Fin.ext (by omega)) (Fin.ext (by omega)))
/-- A key's point, and a nonce's, may stand in a signature. -/
theorem fitB_key (k n z : Nat) (hk : isKey k = true) (hz : z < 72057593894066549) : fitB (Ob.gmul Ob.gGen k).1.val (Ob.gmul Ob.gGen k).2.val (Ob.gmul Ob.gGen n).1.val (Ob.gmul Ob.gGen n).2.val z = true := by
  have lk := of_decide_eq_true hk
  unfold fitB
  rw [isZ_eq, inS_S (Ob.onG_mul Ob.onG_gen k) (Ob.key_S k), inS_S (Ob.onG_mul Ob.onG_gen n) (Ob.key_S n), decide_eq_true (by omega)]
  have : isZ (Ob.gmul Ob.gGen k) = false := decide_eq_false (Ob.key_ne lk.1 lk.2)
  rw [this]
  rfl
/-- Whether a key's signature of one question holds for another. -/
theorem verB_key (k n q : Nat) (hk : isKey k = true) (u : Nat → Nat) (m : Nat) :
    verB (Ob.gmul Ob.gGen k).1.val (Ob.gmul Ob.gGen k).2.val (Ob.gmul Ob.gGen n).1.val (Ob.gmul Ob.gGen n).2.val ((n + q * k % 72057593894066549) % 72057593894066549) u m
      = decide (Ob.gmul Ob.gGen ((n + q * k % Ob.SE) % Ob.SE) = Ob.gmul Ob.gGen ((n + sigQ k n u m * k % Ob.SE) % Ob.SE)) := by
  unfold verB
  rw [fitB_key k n _ hk (Nat.mod_lt _ (by decide)), Bool.true_and]
  unfold verS verQ
  rw [Ob.ofG_val (Ob.onG_mul Ob.onG_gen n), Ob.ofG_val (Ob.onG_mul Ob.onG_gen k)]
  have e : Ob.gadd (Ob.gmul Ob.gGen n) (Ob.gmul (Ob.gmul Ob.gGen k) (sigQ k n u m)) = Ob.gmul Ob.gGen ((n + sigQ k n u m * k % Ob.SE) % Ob.SE) := (Ob.sign_eq n k _).symm
  have e' : Ob.gadd (Ob.gmul Ob.gGen n) (Ob.gmul (Ob.gmul Ob.gGen k) (askN (Ob.edN (Ob.gmul Ob.gGen n)) (Ob.edN (Ob.gmul Ob.gGen k)) u m)) = Ob.gmul Ob.gGen ((n + sigQ k n u m * k % Ob.SE) % Ob.SE) := e
  rw [e', isP_iff]
/-- A signature holds for its key's point. -/
theorem verB_self (k n : Nat) (hk : isKey k = true) (u : Nat → Nat) (m : Nat) :
    verB (Ob.gmul Ob.gGen k).1.val (Ob.gmul Ob.gGen k).2.val (Ob.gmul Ob.gGen n).1.val (Ob.gmul Ob.gGen n).2.val (sigN k n u m) u m = true := by
  unfold sigN
  rw [verB_key k n _ hk u m]
  exact decide_eq_true rfl
theorem verB_apart (k n q r : Nat) (hk : isKey k = true) (u : Nat → Nat) (m : Nat) (hr : sigQ k n u m = r) (h : (n + q * k % Ob.SE) % Ob.SE % Ob.SE ≠ (n + r * k % Ob.SE) % Ob.SE % Ob.SE) :
    verB (Ob.gmul Ob.gGen k).1.val (Ob.gmul Ob.gGen k).2.val (Ob.gmul Ob.gGen n).1.val (Ob.gmul Ob.gGen n).2.val ((n + q * k % 72057593894066549) % 72057593894066549) u m = false := by
  rw [verB_key k n q hk u m, hr]
  exact decide_eq_false fun e => h (Ob.gen_inj e)
theorem sigQ_m : sigQ 5 7 (fun _ => 109) 1 = 23806203171127720 := by
  have : sigQ 5 7 (fun _ => 109) 1 = askN (Ob.edN (Ob.gmul Ob.gGen 7)) (Ob.edN (Ob.gmul Ob.gGen 5)) (fun _ => 109) 1 := by unfold sigQ; rfl
  rw [this, edN_5, edN_7, ask_m]
theorem sigQ_n : sigQ 5 7 (fun _ => 110) 1 = 17944889861085676 := by
  have : sigQ 5 7 (fun _ => 110) 1 = askN (Ob.edN (Ob.gmul Ob.gGen 7)) (Ob.edN (Ob.gmul Ob.gGen 5)) (fun _ => 110) 1 := by unfold sigQ; rfl
  rw [this, edN_5, edN_7, ask_n]
theorem sigN_of (k n : Nat) (u : Nat → Nat) (m q : Nat) (h : sigQ k n u m = q) : sigN k n u m = (n + q * k % 72057593894066549) % 72057593894066549 := by
  unfold sigN
  rw [h]
/-- The document's example: what was signed isn't another message's. -/
theorem verB_other : verB (Ob.gmul Ob.gGen 5).1.val (Ob.gmul Ob.gGen 5).2.val (Ob.gmul Ob.gGen 7).1.val (Ob.gmul Ob.gGen 7).2.val (sigN 5 7 (fun _ => 109) 1) (fun _ => 110) 1 = false := by
  rw [sigN_of 5 7 _ 1 _ sigQ_m]
  exact verB_apart 5 7 23806203171127720 _ (by decide) _ 1 sigQ_n (by decide)
theorem up9W (w : World) (hT : Tabs w) : Calls Tryd.prog 9 #[] w fun e w' => e = .returned (.bool true) ∧ Below w.heap.size w w' := by
  have cv := fun (W : World) (g : Nat) (h : Below w.heap.size w W) (hz : Bys W g 0 1 (fun _ => 109)) => sverW (Ob.gmul Ob.gGen 5).1.val (Ob.gmul Ob.gGen 5).2.val (Ob.gmul Ob.gGen 7).1.val (Ob.gmul Ob.gGen 7).2.val (sigN 5 7 (fun _ => 109) 1) (Ob.G_word _) (Ob.G_word _) (Ob.G_word _) (Ob.G_word _) (some ⟨g, 0, none⟩) 1 1 (by decide) (fun _ => 109) (fun _ => by show 109 < _; decide) W (hT.below h hT.lt) (SrcY.of hz)
  rw [verB_self 5 7 (by decide) _ _] at cv
  have cw := fun (W : World) (g : Nat) (h : Below w.heap.size w W) (hz : Bys W g 0 1 (fun _ => 110)) => sverW (Ob.gmul Ob.gGen 5).1.val (Ob.gmul Ob.gGen 5).2.val (Ob.gmul Ob.gGen 7).1.val (Ob.gmul Ob.gGen 7).2.val (sigN 5 7 (fun _ => 109) 1) (Ob.G_word _) (Ob.G_word _) (Ob.G_word _) (Ob.G_word _) (some ⟨g, 0, none⟩) 1 1 (by decide) (fun _ => 110) (fun _ => by show 110 < _; decide) W (hT.below h hT.lt) (SrcY.of hz)
  rw [verB_other] at cw
  exact up9_core _ _ _ _ _ w (fun W _ => spointW 5 (by decide) W) (fun W _ => spointNo 0 (by decide) W)
    (fun W g h hz => ssignW 5 7 (by decide) (by decide) (some ⟨g, 0, none⟩) 1 1 (by decide) (fun _ => 109) (fun _ => by show 109 < _; decide) W (hT.below h hT.lt) (SrcY.of hz))
    cv cw
end Go.Proofs.YtdhbkhmknnlmnaaDoor

namespace Go.Proofs.YtdhbkhmknnlmnaaDoor
open Go.RowKit Go.Proofs
set_option linter.unusedVariables false
set_option linter.unusedSimpArgs false
attribute [local go_sem ↓] Go.wp_at_zero Go.wp_at_succ

theorem rmulR (a b : Nat) (ha : a < 18446744073709551616) (hb : b < 18446744073709551616) (w : World) :
    Calls Tryd.prog 17 #[.int .u64 288230376287764481, .int .u64 a, .int .u64 b] w fun e w' => e = .returned (.int .u64 ((Ob.toG a * Ob.toG b).val : Nat)) ∧ w = w' := by
  rw [← Ob.mulG]
  exact rmul_any Ob.RE a b w Ob.modRE ha hb
theorem raddR (a b : Nat) (ha : a < 18446744073709551616) (hb : b < 18446744073709551616) (w : World) :
    Calls Tryd.prog 16 #[.int .u64 288230376287764481, .int .u64 a, .int .u64 b] w fun e w' => e = .returned (.int .u64 ((Ob.toG a + Ob.toG b).val : Nat)) ∧ w = w' := by
  rw [← Ob.addG]
  exact radd_any Ob.RE a b w Ob.modRE ha hb
theorem gmulW (a b : Nat) (ha : a < 18446744073709551616) (hb : b < 18446744073709551616) (w : World) :
    Calls Tryd.prog 36 #[.int .u64 a, .int .u64 b] w fun e w' => e = .returned (.int .u64 ((Ob.toG a * Ob.toG b).val : Nat)) ∧ w = w' := by
  have c0 := rmulR a b ha hb
  generalize (Ob.toG a * Ob.toG b).val = r at *
  go_enter Tryd.func36, Tryd.ntmps36
  go_wp2_with (first | (go_at_call 17; first | (with_reducible refine (c0 _).mono ?_; rintro e w' ⟨rfl, rfl⟩)))
  go_ret
  exact ⟨rfl, rfl⟩
theorem gplusW (a b : Nat) (ha : a < 18446744073709551616) (hb : b < 18446744073709551616) (w : World) :
    Calls Tryd.prog 37 #[.int .u64 a, .int .u64 b] w fun e w' => e = .returned (.int .u64 ((Ob.toG a + Ob.toG b).val : Nat)) ∧ w = w' := by
  have c0 := raddR a b ha hb
  generalize (Ob.toG a + Ob.toG b).val = r at *
  go_enter Tryd.func37, Tryd.ntmps37
  go_wp2_with (first | (go_at_call 16; first | (with_reducible refine (c0 _).mono ?_; rintro e w' ⟨rfl, rfl⟩)))
  go_ret
  exact ⟨rfl, rfl⟩
theorem gless_core (a b y n r : Nat) (hb : (b : Int) % 288230376287764481 = (y : Int)) (hy : y < 288230376287764481) (hn : (288230376287764481 : Int) - (y : Int) = (n : Int)) (hn2 : n < 18446744073709551616) (w : World)
   (c0 : ∀ w, Calls Tryd.prog 37 #[.int .u64 a, .int .u64 n] w fun e w' => e = .returned (.int .u64 r) ∧ w = w') :
    Calls Tryd.prog 39 #[.int .u64 a, .int .u64 b] w fun e w' => e = .returned (.int .u64 r) ∧ w = w' := by
  go_enter Tryd.func39, Tryd.ntmps39
  go_wp2_with (first | (go_at_call 37; first | (with_reducible refine (c0 _).mono ?_; rintro e w' ⟨rfl, rfl⟩)))
  go_ret
  exact ⟨rfl, rfl⟩
theorem glessW (a b : Nat) (ha : a < 18446744073709551616) (hb : b < 18446744073709551616) (w : World) :
    Calls Tryd.prog 39 #[.int .u64 a, .int .u64 b] w fun e w' => e = .returned (.int .u64 ((Ob.toG a - Ob.toG b).val : Nat)) ∧ w = w' := by
  have hl : b % 288230376287764481 < 288230376287764481 := Nat.mod_lt _ (by decide)
  have c0 := gplusW a (288230376287764481 - b % 288230376287764481) ha (by omega)
  rw [Ob.toG_neg b] at c0
  have e : Ob.toG a + (0 - Ob.toG b) = Ob.toG a - Ob.toG b := by grobner
  rw [e] at c0
  exact gless_core a b (b % 288230376287764481) _ _ (by omega) hl (by omega) (by omega) w c0
theorem gover_core (a b i r : Nat) (w : World)
   (c0 : ∀ w, Calls Tryd.prog 23 #[.int .u64 288230376287764481, .int .u64 b, .int .u64 288230376287764479] w fun e w' => e = .returned (.int .u64 i) ∧ w = w')
   (c1 : ∀ w, Calls Tryd.prog 36 #[.int .u64 a, .int .u64 i] w fun e w' => e = .returned (.int .u64 r) ∧ w = w') :
    Calls Tryd.prog 38 #[.int .u64 a, .int .u64 b] w fun e w' => e = .returned (.int .u64 r) ∧ w = w' := by
  go_enter Tryd.func38, Tryd.ntmps38
  go_wp2_with (first | (go_at_call 23; first | (with_reducible refine (c0 _).mono ?_; rintro e w' ⟨rfl, rfl⟩)) | (go_at_call 36; first | (with_reducible refine (c1 _).mono ?_; rintro e w' ⟨rfl, rfl⟩)))
  go_ret
  exact ⟨rfl, rfl⟩
theorem goverW (a b : Nat) (ha : a < 18446744073709551616) (hb : b < 18446744073709551616) (w : World) :
    Calls Tryd.prog 38 #[.int .u64 a, .int .u64 b] w fun e w' => e = .returned (.int .u64 ((Ob.toG a * Ob.ginv (Ob.toG b)).val : Nat)) ∧ w = w' := by
  have c0 := fun w => rpow_any Ob.RE b 288230376287764479 w Ob.modRE hb (by decide)
  rw [Ob.powG b _ (by decide)] at c0
  have c1 := gmulW a (Ob.ginv (Ob.toG b)).val ha (Ob.G_word _)
  rw [Ob.toG_of_val] at c1
  exact gover_core a b _ _ w c0 c1

end Go.Proofs.YtdhbkhmknnlmnaaDoor

namespace Go.Proofs.YtdhbkhmknnlmnaaDoor
open Go.RowKit Go.Proofs
set_option linter.unusedVariables false
set_option linter.unusedSimpArgs false
attribute [local go_sem ↓] Go.wp_at_zero Go.wp_at_succ

theorem gmulF (a b : Fin Ob.RE) (w : World) :
    Calls Tryd.prog 36 #[.int .u64 (a.val : Nat), .int .u64 (b.val : Nat)] w fun e w' => e = .returned (.int .u64 ((a * b).val : Nat)) ∧ w = w' := by
  have := gmulW a.val b.val (Ob.G_word _) (Ob.G_word _) w
  rw [Ob.toG_of_val, Ob.toG_of_val] at this
  exact this
theorem gplusF (a b : Fin Ob.RE) (w : World) :
    Calls Tryd.prog 37 #[.int .u64 (a.val : Nat), .int .u64 (b.val : Nat)] w fun e w' => e = .returned (.int .u64 ((a + b).val : Nat)) ∧ w = w' := by
  have := gplusW a.val b.val (Ob.G_word _) (Ob.G_word _) w
  rw [Ob.toG_of_val, Ob.toG_of_val] at this
  exact this

set_option maxHeartbeats 1000000 in
theorem gis_core (x y a b c d f g : Int) (hx : x < 288230376287764481) (hy : y < 288230376287764481) (w : World)
   (c0 : ∀ w, Calls Tryd.prog 36 #[.int .u64 x, .int .u64 x] w fun e w' => e = .returned (.int .u64 a) ∧ w = w')
   (c1 : ∀ w, Calls Tryd.prog 36 #[.int .u64 y, .int .u64 y] w fun e w' => e = .returned (.int .u64 b) ∧ w = w')
   (c3 : ∀ w, Calls Tryd.prog 36 #[.int .u64 a, .int .u64 b] w fun e w' => e = .returned (.int .u64 c) ∧ w = w')
   (c4 : ∀ w, Calls Tryd.prog 36 #[.int .u64 439, .int .u64 c] w fun e w' => e = .returned (.int .u64 d) ∧ w = w')
   (c5 : ∀ w, Calls Tryd.prog 37 #[.int .u64 1, .int .u64 d] w fun e w' => e = .returned (.int .u64 f) ∧ w = w')
   (c6 : ∀ w, Calls Tryd.prog 37 #[.int .u64 a, .int .u64 f] w fun e w' => e = .returned (.int .u64 g) ∧ w = w') :
    Calls Tryd.prog 35 #[.agg #[.int .u64 x, .int .u64 y]] w fun e w' => e = .returned (.bool (b == g)) ∧ Below w.heap.size w w' := by
  have hx' : ¬ (288230376287764481 ≤ x) := by omega
  have hy' : ¬ (288230376287764481 ≤ y) := by omega
  go_enter Tryd.func35, Tryd.ntmps35
  go_wp2_with (first | (go_at_call 36; first | (with_reducible refine (c0 _).mono ?_; rintro e w' ⟨rfl, rfl⟩) | (with_reducible refine (c1 _).mono ?_; rintro e w' ⟨rfl, rfl⟩) | (with_reducible refine (c3 _).mono ?_; rintro e w' ⟨rfl, rfl⟩) | (with_reducible refine (c4 _).mono ?_; rintro e w' ⟨rfl, rfl⟩)) | (go_at_call 37; first | (with_reducible refine (c5 _).mono ?_; rintro e w' ⟨rfl, rfl⟩) | (with_reducible refine (c6 _).mono ?_; rintro e w' ⟨rfl, rfl⟩)))
  go_ret
  exact ⟨rfl, by (repeat' (first | (with_reducible first | exact Below.refl _ _ | assumption | refine Below.alloc ?_ ?_ _ | refine Below.drew ?_ | refine below_drewN ?_ _ | refine Below.setCell ?_ ?_ _ | refine below_via (by with_reducible assumption) ?_ ?_) | omega | (simp only [szs]; omega) | (simp only [szs] at *; omega)))⟩
set_option maxHeartbeats 1000000 in
theorem gis_big (x y : Int) (h : ¬ (x < 288230376287764481 ∧ y < 288230376287764481)) (w : World) :
    Calls Tryd.prog 35 #[.agg #[.int .u64 x, .int .u64 y]] w fun e w' => e = .returned (.bool false) ∧ Below w.heap.size w w' := by
  by_cases hx : x < 288230376287764481
  · have hx' : ¬ (288230376287764481 ≤ x) := by omega
    have hy' : 288230376287764481 ≤ y := by omega
    clear h
    go_enter Tryd.func35, Tryd.ntmps35
    go_wp2
    go_ret
    exact ⟨rfl, by (repeat' (first | (with_reducible first | exact Below.refl _ _ | assumption | refine Below.alloc ?_ ?_ _ | refine Below.drew ?_ | refine below_drewN ?_ _ | refine Below.setCell ?_ ?_ _ | refine below_via (by with_reducible assumption) ?_ ?_) | omega | (simp only [szs]; omega) | (simp only [szs] at *; omega)))⟩
  · have hx' : 288230376287764481 ≤ x := by omega
    clear h hx
    go_enter Tryd.func35, Tryd.ntmps35
    go_wp2
    go_ret
    exact ⟨rfl, by (repeat' (first | (with_reducible first | exact Below.refl _ _ | assumption | refine Below.alloc ?_ ?_ _ | refine Below.drew ?_ | refine below_drewN ?_ _ | refine Below.setCell ?_ ?_ _ | refine below_via (by with_reducible assumption) ?_ ?_) | omega | (simp only [szs]; omega) | (simp only [szs] at *; omega)))⟩
theorem gisW (x y : Nat) (hx : x < 18446744073709551616) (hy : y < 18446744073709551616) (w : World) :
    Calls Tryd.prog 35 #[.agg #[.int .u64 x, .int .u64 y]] w fun e w' => e = .returned (.bool (Ob.isG x y)) ∧ Below w.heap.size w w' := by
  by_cases hp : x < Ob.RE ∧ y < Ob.RE
  · have c4 := gmulW 439 (Ob.toG x * Ob.toG x * (Ob.toG y * Ob.toG y)).val (by decide) (Ob.G_word _)
    have c5 := gplusW 1 (439 * (Ob.toG x * Ob.toG x * (Ob.toG y * Ob.toG y))).val (by decide) (Ob.G_word _)
    rw [Ob.toG_of_val] at c4 c5
    have := gis_core x y _ _ _ _ _ _ (by have := hp.1; simp only [Ob.RE] at this; omega) (by have := hp.2; simp only [Ob.RE] at this; omega) w (gmulW x x hx hx) (gmulW y y hy hy) (gmulF _ _) c4 c5 (gplusF _ _)
    refine this.mono fun e w' ⟨h, hb⟩ => ⟨h.trans ?_, hb⟩
    rw [beq_valG]
    rw [Ob.toG_1]
    refine congrArg _ (congrArg _ ?_)
    simp only [Ob.isG, hp.1, hp.2, decide_true, Bool.true_and]
  · refine (gis_big x y (fun h => hp ⟨by simp only [Ob.RE]; omega, by simp only [Ob.RE]; omega⟩) w).mono fun e w' ⟨h, hb⟩ => ⟨h.trans ?_, hb⟩
    rw [isG_big hp]


set_option maxHeartbeats 4000000 in
theorem gsum_core (x1 y1 x2 y2 a b c k d f x y p q r s : Int) (w : World)
   (c0 : ∀ w, Calls Tryd.prog 36 #[.int .u64 x1, .int .u64 x2] w fun e w' => e = .returned (.int .u64 a) ∧ w = w')
   (c1 : ∀ w, Calls Tryd.prog 36 #[.int .u64 y1, .int .u64 y2] w fun e w' => e = .returned (.int .u64 b) ∧ w = w')
   (c2 : ∀ w, Calls Tryd.prog 36 #[.int .u64 a, .int .u64 b] w fun e w' => e = .returned (.int .u64 c) ∧ w = w')
   (c3 : ∀ w, Calls Tryd.prog 36 #[.int .u64 439, .int .u64 c] w fun e w' => e = .returned (.int .u64 k) ∧ w = w')
   (c4 : ∀ w, Calls Tryd.prog 36 #[.int .u64 x1, .int .u64 y2] w fun e w' => e = .returned (.int .u64 d) ∧ w = w')
   (c5 : ∀ w, Calls Tryd.prog 36 #[.int .u64 y1, .int .u64 x2] w fun e w' => e = .returned (.int .u64 f) ∧ w = w')
   (c6 : ∀ w, Calls Tryd.prog 37 #[.int .u64 d, .int .u64 f] w fun e w' => e = .returned (.int .u64 x) ∧ w = w')
   (c7 : ∀ w, Calls Tryd.prog 37 #[.int .u64 b, .int .u64 a] w fun e w' => e = .returned (.int .u64 y) ∧ w = w')
   (c8 : ∀ w, Calls Tryd.prog 37 #[.int .u64 1, .int .u64 k] w fun e w' => e = .returned (.int .u64 p) ∧ w = w')
   (c9 : ∀ w, Calls Tryd.prog 38 #[.int .u64 x, .int .u64 p] w fun e w' => e = .returned (.int .u64 r) ∧ w = w')
   (c10 : ∀ w, Calls Tryd.prog 39 #[.int .u64 1, .int .u64 k] w fun e w' => e = .returned (.int .u64 q) ∧ w = w')
   (c11 : ∀ w, Calls Tryd.prog 38 #[.int .u64 y, .int .u64 q] w fun e w' => e = .returned (.int .u64 s) ∧ w = w') :
    Calls Tryd.prog 20 #[.agg #[.int .u64 x1, .int .u64 y1], .agg #[.int .u64 x2, .int .u64 y2]] w fun e w' => e = .returned (.agg #[.int .u64 r, .int .u64 s]) ∧ Below w.heap.size w w' := by
  go_enter Tryd.func20, Tryd.ntmps20
  go_wp2
  go_region_held3 (fun w' => w'.cell? ⟨w.heap.size, 0, none⟩ = some (.int .u64 x1) ∧ w'.cell? ⟨w.heap.size, 1, none⟩ = some (.int .u64 y1) ∧ w'.cell? ⟨w.heap.size + 1, 0, none⟩ = some (.int .u64 x2) ∧ w'.cell? ⟨w.heap.size + 1, 1, none⟩ = some (.int .u64 y2)) (go_keep)
    ((first | (go_at_call 36; first | (with_reducible refine (c0 _).mono ?_; rintro e w' ⟨rfl, rfl⟩) | (with_reducible refine (c1 _).mono ?_; rintro e w' ⟨rfl, rfl⟩) | (with_reducible refine (c2 _).mono ?_; rintro e w' ⟨rfl, rfl⟩) | (with_reducible refine (c3 _).mono ?_; rintro e w' ⟨rfl, rfl⟩))))
  go_wp2
  go_region_held3 (fun w' => w'.cell? ⟨w.heap.size, 0, none⟩ = some (.int .u64 x1) ∧ w'.cell? ⟨w.heap.size, 1, none⟩ = some (.int .u64 y1) ∧ w'.cell? ⟨w.heap.size + 1, 0, none⟩ = some (.int .u64 x2) ∧ w'.cell? ⟨w.heap.size + 1, 1, none⟩ = some (.int .u64 y2)) (go_keep)
    ((first | (go_at_call 36; first | (with_reducible refine (c4 _).mono ?_; rintro e w' ⟨rfl, rfl⟩) | (with_reducible refine (c5 _).mono ?_; rintro e w' ⟨rfl, rfl⟩)) | (go_at_call 37; first | (with_reducible refine (c6 _).mono ?_; rintro e w' ⟨rfl, rfl⟩))))
  go_wp2
  go_region_held3 (fun w' => w'.cell? ⟨w.heap.size, 0, none⟩ = some (.int .u64 x1) ∧ w'.cell? ⟨w.heap.size, 1, none⟩ = some (.int .u64 y1) ∧ w'.cell? ⟨w.heap.size + 1, 0, none⟩ = some (.int .u64 x2) ∧ w'.cell? ⟨w.heap.size + 1, 1, none⟩ = some (.int .u64 y2)) (go_keep)
    ((first | (go_at_call 36; first | (with_reducible refine (c1 _).mono ?_; rintro e w' ⟨rfl, rfl⟩) | (with_reducible refine (c0 _).mono ?_; rintro e w' ⟨rfl, rfl⟩)) | (go_at_call 37; first | (with_reducible refine (c7 _).mono ?_; rintro e w' ⟨rfl, rfl⟩))))
  go_wp2_with (first | (go_at_call 37; first | (with_reducible refine (c8 _).mono ?_; rintro e w' ⟨rfl, rfl⟩)) | (go_at_call 38; first | (with_reducible refine (c9 _).mono ?_; rintro e w' ⟨rfl, rfl⟩) | (with_reducible refine (c11 _).mono ?_; rintro e w' ⟨rfl, rfl⟩)) | (go_at_call 39; first | (with_reducible refine (c10 _).mono ?_; rintro e w' ⟨rfl, rfl⟩)))
  exact bodyPost_ret (v := .agg #[.int .u64 r, .int .u64 s]) (by simp [results, Tryd.results20, go_sem, *]) rfl ⟨rfl, by (repeat' (first | (with_reducible first | exact Below.refl _ _ | assumption | refine Below.alloc ?_ ?_ _ | refine Below.drew ?_ | refine below_drewN ?_ _ | refine Below.setCell ?_ ?_ _ | refine below_via (by with_reducible assumption) ?_ ?_) | omega | (simp only [szs]; omega) | (simp only [szs] at *; omega)))⟩
theorem gsumW (u v : Ob.Ep) (w : World) :
    Calls Tryd.prog 20 #[edV u, edV v] w fun e w' => e = .returned (edV (Ob.gadd u v)) ∧ Below w.heap.size w w' := by
  have c3 := gmulW 439 (u.1 * v.1 * (u.2 * v.2)).val (by decide) (Ob.G_word _)
  rw [Ob.toG_of_val, Ob.toG_439] at c3
  have c8 := gplusW 1 (Ob.gk u v).val (by decide) (Ob.G_word _)
  have c10 := glessW 1 (Ob.gk u v).val (by decide) (Ob.G_word _)
  rw [Ob.toG_of_val, Ob.toG_1] at c8 c10
  have c9 := goverW (u.1 * v.2 + u.2 * v.1).val (1 + Ob.gk u v).val (Ob.G_word _) (Ob.G_word _)
  have c11 := goverW (u.2 * v.2 + u.1 * v.1).val (1 - Ob.gk u v).val (Ob.G_word _) (Ob.G_word _)
  rw [Ob.toG_of_val, Ob.toG_of_val] at c9 c11
  exact gsum_core _ _ _ _ _ _ _ _ _ _ _ _ _ _ _ _ w (gmulF _ _) (gmulF _ _) (gmulF _ _) c3 (gmulF _ _) (gmulF _ _) (gplusF _ _) (gplusF _ _) c8 c9 c10 c11

set_option maxHeartbeats 2000000 in
theorem gtimesW {u : Ob.Ep} (hu : Ob.onG u) (x : Nat) (hx : x < 18446744073709551616) (w : World) :
    Calls Tryd.prog 12 #[edV u, .int .u64 x] w fun e w' => e = .returned (edV (Ob.gmul u x)) ∧ Below w.heap.size w w' := by
  obtain ⟨T, hT⟩ : ∃ T, Hid (T = Ob.gmul u x) := ⟨_, rfl⟩
  rw [← hT.out]
  have on : Hid (Ob.onG u) := hu
  clear hu
  unfold edV
  go_enter Tryd.func12, Tryd.ntmps12
  go_wp2
  go_loopw [6] (fun si wr => ∃ (i : Nat) (p : Ob.Ep), i ≤ 64 ∧ si = .int .i64 i ∧
    Two wr w.heap.size (.int .u64 (u.1.val : Nat)) (.int .u64 (u.2.val : Nat)) ∧ Two wr (w.heap.size + 1) (.int .u64 0) (.int .u64 0) ∧ Two wr (w.heap.size + 1 + 1) (.int .u64 (p.1.val : Nat)) (.int .u64 (p.2.val : Nat)) ∧ Below w.heap.size w wr ∧ Hid (p = Ob.gmul u (x / 2 ^ (64 - i)))) (fun si _ => 64 - (intOf si).toNat)
  case atStart =>
    exact ⟨0, Ob.gzero, by omega, rfl, by (repeat' (first | (with_reducible first | assumption | exact Two.own (by with_reducible assumption) | refine Two.set ?_ _ _ | refine Own2.set ?_ _ _ | refine Two.drew ?_ | refine Two.drewN ?_ _ | refine Own2.drew ?_ | refine Own2.drewN ?_ _ | (refine Two.new ?_; simp only [szs]; done) | (refine Own2.new ?_; simp only [szs]; done) | refine Two.alloc ?_ _ | refine Own2.alloc ?_ _ | refine Two.far ?_ ?_ _ _ | refine Own2.far ?_ ?_ _ _ | refine Two.via (by with_reducible assumption) ?_ ?_ | refine Own2.via (by with_reducible assumption) ?_ ?_) | omega | (simp only [szs]; omega))), by (repeat' (first | (with_reducible first | assumption | exact Two.own (by with_reducible assumption) | refine Two.set ?_ _ _ | refine Own2.set ?_ _ _ | refine Two.drew ?_ | refine Two.drewN ?_ _ | refine Own2.drew ?_ | refine Own2.drewN ?_ _ | (refine Two.new ?_; simp only [szs]; done) | (refine Own2.new ?_; simp only [szs]; done) | refine Two.alloc ?_ _ | refine Own2.alloc ?_ _ | refine Two.far ?_ ?_ _ _ | refine Own2.far ?_ ?_ _ _ | refine Two.via (by with_reducible assumption) ?_ ?_ | refine Own2.via (by with_reducible assumption) ?_ ?_) | omega | (simp only [szs]; omega))), (show Two _ _ (.int .u64 0) (.int .u64 1) from by (repeat' (first | (with_reducible first | assumption | exact Two.own (by with_reducible assumption) | refine Two.set ?_ _ _ | refine Own2.set ?_ _ _ | refine Two.drew ?_ | refine Two.drewN ?_ _ | refine Own2.drew ?_ | refine Own2.drewN ?_ _ | (refine Two.new ?_; simp only [szs]; done) | (refine Own2.new ?_; simp only [szs]; done) | refine Two.alloc ?_ _ | refine Own2.alloc ?_ _ | refine Two.far ?_ ?_ _ _ | refine Own2.far ?_ ?_ _ _ | refine Two.via (by with_reducible assumption) ?_ ?_ | refine Own2.via (by with_reducible assumption) ?_ ?_) | omega | (simp only [szs]; omega)))), by (repeat' (first | (with_reducible first | exact Below.refl _ _ | assumption | refine Below.alloc ?_ ?_ _ | refine Below.drew ?_ | refine below_drewN ?_ _ | refine Below.setCell ?_ ?_ _ | refine below_via (by with_reducible assumption) ?_ ?_) | omega | (simp only [szs]; omega) | (simp only [szs] at *; omega))), by
      have : x / 2 ^ (64 - 0) = 0 := Nat.div_eq_of_lt (by omega)
      show Ob.gzero = Ob.gmul u (x / 2 ^ (64 - 0))
      rw [this]; rfl⟩
  case round =>
    obtain ⟨i, p, hi, rfl, t1, t2, t3, hB, hI⟩ := hrel
    have ⟨d1, d2, d3, d4, d5⟩ := t1
    have ⟨e1, e2, e3, e4, e5⟩ := t2
    have ⟨g1, g2, g3, g4, g5⟩ := t3
    by_cases hlt : i < 64
    · obtain ⟨k, hk⟩ : ∃ k, k + i = 63 := ⟨63 - i, by omega⟩
      have hyk : x / 2 ^ k < 18446744073709551616 := Nat.lt_of_le_of_lt (Nat.div_le_self _ _) (by omega)
      obtain ⟨t, ht⟩ : ∃ t : Nat, (x : Int) / 2 ^ (63 - i) = (t : Int) ∧ Hid (t = x / 2 ^ k) := ⟨x / 2 ^ k, by
        have : 63 - i = k := by omega
        rw [this]
        simp, rfl⟩
      obtain ⟨ht, htk⟩ := ht
      have hand := and_one t (by rw [htk.out]; exact hyk)
      have sq := gsumW p p
      have op : Hid (Ob.onG p) := by rw [hI.out]; exact Ob.onG_mul on.out _
      obtain ⟨q, hq⟩ : ∃ q, Hid (q = Ob.gadd p p) := ⟨_, rfl⟩
      rw [← hq.out] at sq
      unfold edV at sq
      have hI2 : Hid (Ob.gmul u (x / 2 ^ k) = Ob.gadd q (Ob.gmul u (t % 2))) := by
        have e1 : 64 - i = k + 1 := by omega
        have := hI.out
        rw [e1] at this
        show Ob.gmul u (x / 2 ^ k) = Ob.gadd q (Ob.gmul u (t % 2))
        rw [Ob.gmul_bit on.out, ← this, hq.out, ← htk.out]
      clear hI hyk htk
      have e2' : Hid (64 - (i + 1) = k) := by show 64 - (i + 1) = k; omega
      have ml := gsumW q u
      obtain ⟨s, hs⟩ : ∃ s, Hid (s = Ob.gadd q u) := ⟨_, rfl⟩
      rw [← hs.out] at ml
      unfold edV at ml
      have oq : Hid (Ob.onG q) := by rw [hq.out]; exact Ob.onG_add op.out op.out
      have r1 : t % 2 = 1 → s = Ob.gmul u (x / 2 ^ (64 - (i + 1))) := fun hbit => by
        rw [e2'.out, hI2.out, hbit, Ob.gmul_one on.out, hs.out]
      have r0 : t % 2 = 0 → q = Ob.gmul u (x / 2 ^ (64 - (i + 1))) := fun hbit => by
        rw [e2'.out, hI2.out, hbit]; exact (Ob.gadd_zero oq.out).symm
      by_cases hz : p = Ob.gzero
      · -- the double of 0 is 0, and is not taken
        have hqp : q = p := by rw [hq.out, hz]; exact Ob.gadd_zero Ob.onG_zero
        rw [hqp] at ml r0
        have z1 : ((p.1.val : Nat) : Int) = 0 := by rw [hz]; rfl
        have z2 : ((p.2.val : Nat) : Int) = 1 := by rw [hz]; rfl
        rw [z1, z2] at ml
        rw [z1] at g1
        rw [z2] at g2
        by_cases hbit : t % 2 = 1
        · have hb1 : ((t % 2 : Nat) : Int) = 1 := by omega
          rw [hb1] at hand
          have hr : Hid (s = Ob.gmul u (x / 2 ^ (64 - (i + 1)))) := r1 hbit
          clear hb1 r0 r1 hI2 hbit hz hqp hq hs oq op e2' sq z1 z2
          go_wp2_with (first | (go_at_call 20; first | (with_reducible refine (ml _).mono ?_; rintro e w_ml ⟨rfl, b_ml⟩; have z_ml := b_ml.size; (try simp only [szs] at z_ml); (try (have q_ml_0 := own2 b_ml (w.heap.size) (by first | omega | (simp only [szs]; omega)))); (try (have q_ml_1 := own2 b_ml (w.heap.size + 1) (by first | omega | (simp only [szs]; omega)))); (try (have q_ml_2 := own2 b_ml (w.heap.size + 1 + 1) (by first | omega | (simp only [szs]; omega)))))))
          go_roundw
          case rel => exact ⟨i + 1, s, by omega, by go_num, by (repeat' (first | (with_reducible first | assumption | exact Two.own (by with_reducible assumption) | refine Two.set ?_ _ _ | refine Own2.set ?_ _ _ | refine Two.drew ?_ | refine Two.drewN ?_ _ | refine Own2.drew ?_ | refine Own2.drewN ?_ _ | (refine Two.new ?_; simp only [szs]; done) | (refine Own2.new ?_; simp only [szs]; done) | refine Two.alloc ?_ _ | refine Own2.alloc ?_ _ | refine Two.far ?_ ?_ _ _ | refine Own2.far ?_ ?_ _ _ | refine Two.via (by with_reducible assumption) ?_ ?_ | refine Own2.via (by with_reducible assumption) ?_ ?_) | omega | (simp only [szs]; omega))), by (repeat' (first | (with_reducible first | assumption | exact Two.own (by with_reducible assumption) | refine Two.set ?_ _ _ | refine Own2.set ?_ _ _ | refine Two.drew ?_ | refine Two.drewN ?_ _ | refine Own2.drew ?_ | refine Own2.drewN ?_ _ | (refine Two.new ?_; simp only [szs]; done) | (refine Own2.new ?_; simp only [szs]; done) | refine Two.alloc ?_ _ | refine Own2.alloc ?_ _ | refine Two.far ?_ ?_ _ _ | refine Own2.far ?_ ?_ _ _ | refine Two.via (by with_reducible assumption) ?_ ?_ | refine Own2.via (by with_reducible assumption) ?_ ?_) | omega | (simp only [szs]; omega))), by (repeat' (first | (with_reducible first | assumption | exact Two.own (by with_reducible assumption) | refine Two.set ?_ _ _ | refine Own2.set ?_ _ _ | refine Two.drew ?_ | refine Two.drewN ?_ _ | refine Own2.drew ?_ | refine Own2.drewN ?_ _ | (refine Two.new ?_; simp only [szs]; done) | (refine Own2.new ?_; simp only [szs]; done) | refine Two.alloc ?_ _ | refine Own2.alloc ?_ _ | refine Two.far ?_ ?_ _ _ | refine Own2.far ?_ ?_ _ _ | refine Two.via (by with_reducible assumption) ?_ ?_ | refine Own2.via (by with_reducible assumption) ?_ ?_) | omega | (simp only [szs]; omega))), by (repeat' (first | (with_reducible first | exact Below.refl _ _ | assumption | refine Below.alloc ?_ ?_ _ | refine Below.drew ?_ | refine below_drewN ?_ _ | refine Below.setCell ?_ ?_ _ | refine below_via (by with_reducible assumption) ?_ ?_) | omega | (simp only [szs]; omega) | (simp only [szs] at *; omega))), hr⟩
          case measure => simp [intOf]; omega
        · have hb1 : ((t % 2 : Nat) : Int) = 0 := by omega
          rw [hb1] at hand
          have hr : Hid (p = Ob.gmul u (x / 2 ^ (64 - (i + 1)))) := r0 (by omega)
          clear hb1 r0 r1 hI2 hbit hz hqp hq hs oq op e2' sq z1 z2 ml
          go_wp2
          go_roundw
          case rel => exact ⟨i + 1, p, by omega, by go_num, by (repeat' (first | (with_reducible first | assumption | exact Two.own (by with_reducible assumption) | refine Two.set ?_ _ _ | refine Own2.set ?_ _ _ | refine Two.drew ?_ | refine Two.drewN ?_ _ | refine Own2.drew ?_ | refine Own2.drewN ?_ _ | (refine Two.new ?_; simp only [szs]; done) | (refine Own2.new ?_; simp only [szs]; done) | refine Two.alloc ?_ _ | refine Own2.alloc ?_ _ | refine Two.far ?_ ?_ _ _ | refine Own2.far ?_ ?_ _ _ | refine Two.via (by with_reducible assumption) ?_ ?_ | refine Own2.via (by with_reducible assumption) ?_ ?_) | omega | (simp only [szs]; omega))), by (repeat' (first | (with_reducible first | assumption | exact Two.own (by with_reducible assumption) | refine Two.set ?_ _ _ | refine Own2.set ?_ _ _ | refine Two.drew ?_ | refine Two.drewN ?_ _ | refine Own2.drew ?_ | refine Own2.drewN ?_ _ | (refine Two.new ?_; simp only [szs]; done) | (refine Own2.new ?_; simp only [szs]; done) | refine Two.alloc ?_ _ | refine Own2.alloc ?_ _ | refine Two.far ?_ ?_ _ _ | refine Own2.far ?_ ?_ _ _ | refine Two.via (by with_reducible assumption) ?_ ?_ | refine Own2.via (by with_reducible assumption) ?_ ?_) | omega | (simp only [szs]; omega))), by (repeat' (first | (with_reducible first | assumption | exact Two.own (by with_reducible assumption) | refine Two.set ?_ _ _ | refine Own2.set ?_ _ _ | refine Two.drew ?_ | refine Two.drewN ?_ _ | refine Own2.drew ?_ | refine Own2.drewN ?_ _ | (refine Two.new ?_; simp only [szs]; done) | (refine Own2.new ?_; simp only [szs]; done) | refine Two.alloc ?_ _ | refine Own2.alloc ?_ _ | refine Two.far ?_ ?_ _ _ | refine Own2.far ?_ ?_ _ _ | refine Two.via (by with_reducible assumption) ?_ ?_ | refine Own2.via (by with_reducible assumption) ?_ ?_) | omega | (simp only [szs]; omega))), by (repeat' (first | (with_reducible first | exact Below.refl _ _ | assumption | refine Below.alloc ?_ ?_ _ | refine Below.drew ?_ | refine below_drewN ?_ _ | refine Below.setCell ?_ ?_ _ | refine below_via (by with_reducible assumption) ?_ ?_) | omega | (simp only [szs]; omega) | (simp only [szs] at *; omega))), hr⟩
          case measure => simp [intOf]; omega
      · have hzz : ((((p.1.val : Nat) : Int) != 0) || (((p.2.val : Nat) : Int) != 1)) = true := by
          have := isZ_eq p
          unfold isZ at this
          rw [decide_eq_false hz] at this
          simp only [bne]
          rw [← Bool.not_and, this]; rfl
        clear hz
        have hx1 : (((p.1.val : Nat) : Int) = 0 ∧ ¬ ((p.2.val : Nat) : Int) = 1) ∨ ¬ (((p.1.val : Nat) : Int) = 0) := by
          simp only [Bool.or_eq_true, bne_iff_ne] at hzz
          omega
        clear hzz
        by_cases hbit : t % 2 = 1
        · have hb1 : ((t % 2 : Nat) : Int) = 1 := by omega
          rw [hb1] at hand
          have hr : Hid (s = Ob.gmul u (x / 2 ^ (64 - (i + 1)))) := r1 hbit
          clear hb1 r0 r1 hI2 hbit hq hs oq op e2'
          rcases hx1 with ⟨hx1, hx2⟩ | hx1
          · have hx1' : (((p.1.val : Nat) : Int) == 0) = true := by simpa using hx1
            have hx2' : (((p.2.val : Nat) : Int) == 1) = false := by simpa using hx2
            have hx3' : (((p.1.val : Nat) : Int) != 0) = false := by simpa using hx1
            have hx4' : (((p.2.val : Nat) : Int) != 1) = true := by simpa using hx2
            clear hx1
            go_wp2_with (first | (go_at_call 20; first | (with_reducible refine (sq _).mono ?_; rintro e w_sq ⟨rfl, b_sq⟩; have z_sq := b_sq.size; (try simp only [szs] at z_sq); (try (have q_sq_0 := own2 b_sq (w.heap.size) (by first | omega | (simp only [szs]; omega)))); (try (have q_sq_1 := own2 b_sq (w.heap.size + 1) (by first | omega | (simp only [szs]; omega)))); (try (have q_sq_2 := own2 b_sq (w.heap.size + 1 + 1) (by first | omega | (simp only [szs]; omega))))) | (with_reducible refine (ml _).mono ?_; rintro e w_ml ⟨rfl, b_ml⟩; have z_ml := b_ml.size; (try simp only [szs] at z_ml); (try (have q_ml_0 := own2 b_ml (w.heap.size) (by first | omega | (simp only [szs]; omega)))); (try (have q_ml_1 := own2 b_ml (w.heap.size + 1) (by first | omega | (simp only [szs]; omega)))); (try (have q_ml_2 := own2 b_ml (w.heap.size + 1 + 1) (by first | omega | (simp only [szs]; omega)))))))
            go_roundw
            case rel => exact ⟨i + 1, s, by omega, by go_num, by (repeat' (first | (with_reducible first | assumption | exact Two.own (by with_reducible assumption) | refine Two.set ?_ _ _ | refine Own2.set ?_ _ _ | refine Two.drew ?_ | refine Two.drewN ?_ _ | refine Own2.drew ?_ | refine Own2.drewN ?_ _ | (refine Two.new ?_; simp only [szs]; done) | (refine Own2.new ?_; simp only [szs]; done) | refine Two.alloc ?_ _ | refine Own2.alloc ?_ _ | refine Two.far ?_ ?_ _ _ | refine Own2.far ?_ ?_ _ _ | refine Two.via (by with_reducible assumption) ?_ ?_ | refine Own2.via (by with_reducible assumption) ?_ ?_) | omega | (simp only [szs]; omega))), by (repeat' (first | (with_reducible first | assumption | exact Two.own (by with_reducible assumption) | refine Two.set ?_ _ _ | refine Own2.set ?_ _ _ | refine Two.drew ?_ | refine Two.drewN ?_ _ | refine Own2.drew ?_ | refine Own2.drewN ?_ _ | (refine Two.new ?_; simp only [szs]; done) | (refine Own2.new ?_; simp only [szs]; done) | refine Two.alloc ?_ _ | refine Own2.alloc ?_ _ | refine Two.far ?_ ?_ _ _ | refine Own2.far ?_ ?_ _ _ | refine Two.via (by with_reducible assumption) ?_ ?_ | refine Own2.via (by with_reducible assumption) ?_ ?_) | omega | (simp only [szs]; omega))), by (repeat' (first | (with_reducible first | assumption | exact Two.own (by with_reducible assumption) | refine Two.set ?_ _ _ | refine Own2.set ?_ _ _ | refine Two.drew ?_ | refine Two.drewN ?_ _ | refine Own2.drew ?_ | refine Own2.drewN ?_ _ | (refine Two.new ?_; simp only [szs]; done) | (refine Own2.new ?_; simp only [szs]; done) | refine Two.alloc ?_ _ | refine Own2.alloc ?_ _ | refine Two.far ?_ ?_ _ _ | refine Own2.far ?_ ?_ _ _ | refine Two.via (by with_reducible assumption) ?_ ?_ | refine Own2.via (by with_reducible assumption) ?_ ?_) | omega | (simp only [szs]; omega))), by (repeat' (first | (with_reducible first | exact Below.refl _ _ | assumption | refine Below.alloc ?_ ?_ _ | refine Below.drew ?_ | refine below_drewN ?_ _ | refine Below.setCell ?_ ?_ _ | refine below_via (by with_reducible assumption) ?_ ?_) | omega | (simp only [szs]; omega) | (simp only [szs] at *; omega))), hr⟩
            case measure => simp [intOf]; omega
          · have hx3' : (((p.1.val : Nat) : Int) != 0) = true := by simpa using hx1
            go_wp2_with (first | (go_at_call 20; first | (with_reducible refine (sq _).mono ?_; rintro e w_sq ⟨rfl, b_sq⟩; have z_sq := b_sq.size; (try simp only [szs] at z_sq); (try (have q_sq_0 := own2 b_sq (w.heap.size) (by first | omega | (simp only [szs]; omega)))); (try (have q_sq_1 := own2 b_sq (w.heap.size + 1) (by first | omega | (simp only [szs]; omega)))); (try (have q_sq_2 := own2 b_sq (w.heap.size + 1 + 1) (by first | omega | (simp only [szs]; omega))))) | (with_reducible refine (ml _).mono ?_; rintro e w_ml ⟨rfl, b_ml⟩; have z_ml := b_ml.size; (try simp only [szs] at z_ml); (try (have q_ml_0 := own2 b_ml (w.heap.size) (by first | omega | (simp only [szs]; omega)))); (try (have q_ml_1 := own2 b_ml (w.heap.size + 1) (by first | omega | (simp only [szs]; omega)))); (try (have q_ml_2 := own2 b_ml (w.heap.size + 1 + 1) (by first | omega | (simp only [szs]; omega)))))))
            go_roundw
            case rel => exact ⟨i + 1, s, by omega, by go_num, by (repeat' (first | (with_reducible first | assumption | exact Two.own (by with_reducible assumption) | refine Two.set ?_ _ _ | refine Own2.set ?_ _ _ | refine Two.drew ?_ | refine Two.drewN ?_ _ | refine Own2.drew ?_ | refine Own2.drewN ?_ _ | (refine Two.new ?_; simp only [szs]; done) | (refine Own2.new ?_; simp only [szs]; done) | refine Two.alloc ?_ _ | refine Own2.alloc ?_ _ | refine Two.far ?_ ?_ _ _ | refine Own2.far ?_ ?_ _ _ | refine Two.via (by with_reducible assumption) ?_ ?_ | refine Own2.via (by with_reducible assumption) ?_ ?_) | omega | (simp only [szs]; omega))), by (repeat' (first | (with_reducible first | assumption | exact Two.own (by with_reducible assumption) | refine Two.set ?_ _ _ | refine Own2.set ?_ _ _ | refine Two.drew ?_ | refine Two.drewN ?_ _ | refine Own2.drew ?_ | refine Own2.drewN ?_ _ | (refine Two.new ?_; simp only [szs]; done) | (refine Own2.new ?_; simp only [szs]; done) | refine Two.alloc ?_ _ | refine Own2.alloc ?_ _ | refine Two.far ?_ ?_ _ _ | refine Own2.far ?_ ?_ _ _ | refine Two.via (by with_reducible assumption) ?_ ?_ | refine Own2.via (by with_reducible assumption) ?_ ?_) | omega | (simp only [szs]; omega))), by (repeat' (first | (with_reducible first | assumption | exact Two.own (by with_reducible assumption) | refine Two.set ?_ _ _ | refine Own2.set ?_ _ _ | refine Two.drew ?_ | refine Two.drewN ?_ _ | refine Own2.drew ?_ | refine Own2.drewN ?_ _ | (refine Two.new ?_; simp only [szs]; done) | (refine Own2.new ?_; simp only [szs]; done) | refine Two.alloc ?_ _ | refine Own2.alloc ?_ _ | refine Two.far ?_ ?_ _ _ | refine Own2.far ?_ ?_ _ _ | refine Two.via (by with_reducible assumption) ?_ ?_ | refine Own2.via (by with_reducible assumption) ?_ ?_) | omega | (simp only [szs]; omega))), by (repeat' (first | (with_reducible first | exact Below.refl _ _ | assumption | refine Below.alloc ?_ ?_ _ | refine Below.drew ?_ | refine below_drewN ?_ _ | refine Below.setCell ?_ ?_ _ | refine below_via (by with_reducible assumption) ?_ ?_) | omega | (simp only [szs]; omega) | (simp only [szs] at *; omega))), hr⟩
            case measure => simp [intOf]; omega
        · have hb1 : ((t % 2 : Nat) : Int) = 0 := by omega
          rw [hb1] at hand
          have hr : Hid (q = Ob.gmul u (x / 2 ^ (64 - (i + 1)))) := r0 (by omega)
          clear hb1 r0 r1 hI2 hbit hq hs oq op e2' ml
          rcases hx1 with ⟨hx1, hx2⟩ | hx1
          · have hx1' : (((p.1.val : Nat) : Int) == 0) = true := by simpa using hx1
            have hx2' : (((p.2.val : Nat) : Int) == 1) = false := by simpa using hx2
            have hx3' : (((p.1.val : Nat) : Int) != 0) = false := by simpa using hx1
            have hx4' : (((p.2.val : Nat) : Int) != 1) = true := by simpa using hx2
            clear hx1
            go_wp2_with (first | (go_at_call 20; first | (with_reducible refine (sq _).mono ?_; rintro e w_sq ⟨rfl, b_sq⟩; have z_sq := b_sq.size; (try simp only [szs] at z_sq); (try (have q_sq_0 := own2 b_sq (w.heap.size) (by first | omega | (simp only [szs]; omega)))); (try (have q_sq_1 := own2 b_sq (w.heap.size + 1) (by first | omega | (simp only [szs]; omega)))); (try (have q_sq_2 := own2 b_sq (w.heap.size + 1 + 1) (by first | omega | (simp only [szs]; omega)))))))
            go_roundw
            case rel => exact ⟨i + 1, q, by omega, by go_num, by (repeat' (first | (with_reducible first | assumption | exact Two.own (by with_reducible assumption) | refine Two.set ?_ _ _ | refine Own2.set ?_ _ _ | refine Two.drew ?_ | refine Two.drewN ?_ _ | refine Own2.drew ?_ | refine Own2.drewN ?_ _ | (refine Two.new ?_; simp only [szs]; done) | (refine Own2.new ?_; simp only [szs]; done) | refine Two.alloc ?_ _ | refine Own2.alloc ?_ _ | refine Two.far ?_ ?_ _ _ | refine Own2.far ?_ ?_ _ _ | refine Two.via (by with_reducible assumption) ?_ ?_ | refine Own2.via (by with_reducible assumption) ?_ ?_) | omega | (simp only [szs]; omega))), by (repeat' (first | (with_reducible first | assumption | exact Two.own (by with_reducible assumption) | refine Two.set ?_ _ _ | refine Own2.set ?_ _ _ | refine Two.drew ?_ | refine Two.drewN ?_ _ | refine Own2.drew ?_ | refine Own2.drewN ?_ _ | (refine Two.new ?_; simp only [szs]; done) | (refine Own2.new ?_; simp only [szs]; done) | refine Two.alloc ?_ _ | refine Own2.alloc ?_ _ | refine Two.far ?_ ?_ _ _ | refine Own2.far ?_ ?_ _ _ | refine Two.via (by with_reducible assumption) ?_ ?_ | refine Own2.via (by with_reducible assumption) ?_ ?_) | omega | (simp only [szs]; omega))), by (repeat' (first | (with_reducible first | assumption | exact Two.own (by with_reducible assumption) | refine Two.set ?_ _ _ | refine Own2.set ?_ _ _ | refine Two.drew ?_ | refine Two.drewN ?_ _ | refine Own2.drew ?_ | refine Own2.drewN ?_ _ | (refine Two.new ?_; simp only [szs]; done) | (refine Own2.new ?_; simp only [szs]; done) | refine Two.alloc ?_ _ | refine Own2.alloc ?_ _ | refine Two.far ?_ ?_ _ _ | refine Own2.far ?_ ?_ _ _ | refine Two.via (by with_reducible assumption) ?_ ?_ | refine Own2.via (by with_reducible assumption) ?_ ?_) | omega | (simp only [szs]; omega))), by (repeat' (first | (with_reducible first | exact Below.refl _ _ | assumption | refine Below.alloc ?_ ?_ _ | refine Below.drew ?_ | refine below_drewN ?_ _ | refine Below.setCell ?_ ?_ _ | refine below_via (by with_reducible assumption) ?_ ?_) | omega | (simp only [szs]; omega) | (simp only [szs] at *; omega))), hr⟩
            case measure => simp [intOf]; omega
          · have hx3' : (((p.1.val : Nat) : Int) != 0) = true := by simpa using hx1
            go_wp2_with (first | (go_at_call 20; first | (with_reducible refine (sq _).mono ?_; rintro e w_sq ⟨rfl, b_sq⟩; have z_sq := b_sq.size; (try simp only [szs] at z_sq); (try (have q_sq_0 := own2 b_sq (w.heap.size) (by first | omega | (simp only [szs]; omega)))); (try (have q_sq_1 := own2 b_sq (w.heap.size + 1) (by first | omega | (simp only [szs]; omega)))); (try (have q_sq_2 := own2 b_sq (w.heap.size + 1 + 1) (by first | omega | (simp only [szs]; omega)))))))
            go_roundw
            case rel => exact ⟨i + 1, q, by omega, by go_num, by (repeat' (first | (with_reducible first | assumption | exact Two.own (by with_reducible assumption) | refine Two.set ?_ _ _ | refine Own2.set ?_ _ _ | refine Two.drew ?_ | refine Two.drewN ?_ _ | refine Own2.drew ?_ | refine Own2.drewN ?_ _ | (refine Two.new ?_; simp only [szs]; done) | (refine Own2.new ?_; simp only [szs]; done) | refine Two.alloc ?_ _ | refine Own2.alloc ?_ _ | refine Two.far ?_ ?_ _ _ | refine Own2.far ?_ ?_ _ _ | refine Two.via (by with_reducible assumption) ?_ ?_ | refine Own2.via (by with_reducible assumption) ?_ ?_) | omega | (simp only [szs]; omega))), by (repeat' (first | (with_reducible first | assumption | exact Two.own (by with_reducible assumption) | refine Two.set ?_ _ _ | refine Own2.set ?_ _ _ | refine Two.drew ?_ | refine Two.drewN ?_ _ | refine Own2.drew ?_ | refine Own2.drewN ?_ _ | (refine Two.new ?_; simp only [szs]; done) | (refine Own2.new ?_; simp only [szs]; done) | refine Two.alloc ?_ _ | refine Own2.alloc ?_ _ | refine Two.far ?_ ?_ _ _ | refine Own2.far ?_ ?_ _ _ | refine Two.via (by with_reducible assumption) ?_ ?_ | refine Own2.via (by with_reducible assumption) ?_ ?_) | omega | (simp only [szs]; omega))), by (repeat' (first | (with_reducible first | assumption | exact Two.own (by with_reducible assumption) | refine Two.set ?_ _ _ | refine Own2.set ?_ _ _ | refine Two.drew ?_ | refine Two.drewN ?_ _ | refine Own2.drew ?_ | refine Own2.drewN ?_ _ | (refine Two.new ?_; simp only [szs]; done) | (refine Own2.new ?_; simp only [szs]; done) | refine Two.alloc ?_ _ | refine Own2.alloc ?_ _ | refine Two.far ?_ ?_ _ _ | refine Own2.far ?_ ?_ _ _ | refine Two.via (by with_reducible assumption) ?_ ?_ | refine Own2.via (by with_reducible assumption) ?_ ?_) | omega | (simp only [szs]; omega))), by (repeat' (first | (with_reducible first | exact Below.refl _ _ | assumption | refine Below.alloc ?_ ?_ _ | refine Below.drew ?_ | refine below_drewN ?_ _ | refine Below.setCell ?_ ?_ _ | refine below_via (by with_reducible assumption) ?_ ?_) | omega | (simp only [szs]; omega) | (simp only [szs] at *; omega))), hr⟩
            case measure => simp [intOf]; omega
    · have hi64 : i = 64 := by omega
      have hn : Hid (p = T) := by
        have := hI.out
        rw [hi64] at this
        show p = T
        rw [hT.out]
        simpa using this
      go_wp2
      exact bodyPost_ret (v := .agg #[.int .u64 (p.1.val : Nat), .int .u64 (p.2.val : Nat)]) (by simp [results, Tryd.results12, go_sem, *]) rfl ⟨by rw [← hn.out], by (repeat' (first | (with_reducible first | exact Below.refl _ _ | assumption | refine Below.alloc ?_ ?_ _ | refine Below.drew ?_ | refine below_drewN ?_ _ | refine Below.setCell ?_ ?_ _ | refine below_via (by with_reducible assumption) ?_ ?_) | omega | (simp only [szs]; omega) | (simp only [szs] at *; omega)))⟩

set_option maxHeartbeats 1000000 in
theorem gin_yes (x y r s : Int) (w : World)
   (c0 : ∀ w, Calls Tryd.prog 35 #[.agg #[.int .u64 x, .int .u64 y]] w fun e w' => e = .returned (.bool true) ∧ Below w.heap.size w w')
   (c1 : ∀ w, Calls Tryd.prog 12 #[.agg #[.int .u64 x, .int .u64 y], .int .u64 72057593894066549] w fun e w' => e = .returned (.agg #[.int .u64 r, .int .u64 s]) ∧ Below w.heap.size w w') :
    Calls Tryd.prog 19 #[.agg #[.int .u64 x, .int .u64 y]] w fun e w' => e = .returned (.bool (r == 0 && s == 1)) ∧ Below w.heap.size w w' := by
  have he := fun w => equal_Ed w r s 0 1
  obtain ⟨q, hq⟩ : ∃ q, Hid ((r == 0 && s == 1) = q) := ⟨_, rfl⟩
  rw [hq.out] at he ⊢
  go_enter Tryd.func19, Tryd.ntmps19
  go_wp2_with (first | (go_at_call 35; first | (with_reducible refine (c0 _).mono ?_; rintro e w_c0 ⟨rfl, b_c0⟩; have z_c0 := b_c0.size; (try simp only [szs] at z_c0); (try (have q_c0_0 := own2 b_c0 (w.heap.size) (by first | omega | (simp only [szs]; omega)))))) | (go_at_call 12; first | (with_reducible refine (c1 _).mono ?_; rintro e w_c1 ⟨rfl, b_c1⟩; have z_c1 := b_c1.size; (try simp only [szs] at z_c1); (try (have q_c1_0 := own2 b_c1 (w.heap.size) (by first | omega | (simp only [szs]; omega)))))))
  go_ret
  exact ⟨rfl, by (repeat' (first | (with_reducible first | exact Below.refl _ _ | assumption | refine Below.alloc ?_ ?_ _ | refine Below.drew ?_ | refine below_drewN ?_ _ | refine Below.setCell ?_ ?_ _ | refine below_via (by with_reducible assumption) ?_ ?_) | omega | (simp only [szs]; omega) | (simp only [szs] at *; omega)))⟩
set_option maxHeartbeats 1000000 in
theorem gin_no (x y : Int) (w : World)
   (c0 : ∀ w, Calls Tryd.prog 35 #[.agg #[.int .u64 x, .int .u64 y]] w fun e w' => e = .returned (.bool false) ∧ Below w.heap.size w w') :
    Calls Tryd.prog 19 #[.agg #[.int .u64 x, .int .u64 y]] w fun e w' => e = .returned (.bool false) ∧ Below w.heap.size w w' := by
  go_enter Tryd.func19, Tryd.ntmps19
  go_wp2_with (first | (go_at_call 35; first | (with_reducible refine (c0 _).mono ?_; rintro e w_c0 ⟨rfl, b_c0⟩; have z_c0 := b_c0.size; (try simp only [szs] at z_c0); (try (have q_c0_0 := own2 b_c0 (w.heap.size) (by first | omega | (simp only [szs]; omega)))))))
  go_ret
  exact ⟨rfl, by (repeat' (first | (with_reducible first | exact Below.refl _ _ | assumption | refine Below.alloc ?_ ?_ _ | refine Below.drew ?_ | refine below_drewN ?_ _ | refine Below.setCell ?_ ?_ _ | refine below_via (by with_reducible assumption) ?_ ?_) | omega | (simp only [szs]; omega) | (simp only [szs] at *; omega)))⟩
theorem ginW (x y : Nat) (hx : x < 18446744073709551616) (hy : y < 18446744073709551616) (w : World) :
    Calls Tryd.prog 19 #[.agg #[.int .u64 x, .int .u64 y]] w fun e w' => e = .returned (.bool (inS x y)) ∧ Below w.heap.size w w' := by
  have c0 := gisW x y hx hy
  unfold inS
  cases h : Ob.isG x y with
  | true =>
    rw [h] at c0
    rw [Bool.true_and, ← isZ_eq]
    have c1 := gtimesW (Ob.ofG_on x y) 72057593894066549 (by decide)
    rw [← edV_yes h] at c1
    exact gin_yes x y _ _ w c0 c1
  | false =>
    rw [h] at c0
    exact gin_no x y w c0
end Go.Proofs.YtdhbkhmknnlmnaaDoor

namespace Go.Proofs.YtdhbkhmknnlmnaaDoor
open Go.RowKit Go.Proofs
set_option linter.unusedVariables false
set_option linter.unusedSimpArgs false
attribute [local go_sem ↓] Go.wp_at_zero Go.wp_at_succ
theorem equal_same9 (w : World) (x y : Int) : (Op.equalIn 10000 25 (.agg #[.int .u64 x, .int .u64 y]) (.agg #[.int .u64 x, .int .u64 y])).run Tryd.prog w = .ok true w := by
  rw [equal_Ed]; simp
theorem equalIn_Sig (d : Nat) (w : World) (x y z x' y' z' : Int) : (Op.equalIn (d + 3) 36 (.agg #[.int .u64 x, .int .u64 y, .int .u64 z]) (.agg #[.int .u64 x', .int .u64 y', .int .u64 z'])).run Tryd.prog w = .ok ((x == x' && y == y') && z == z') w := by
  have hA : ∀ w : World, (isAgg 22).run Tryd.prog w = .ok false w := fun w => by kernel_rfl
  have hA2 : ∀ w : World, (isAgg 25).run Tryd.prog w = .ok true w := fun w => by kernel_rfl
  have hI : ∀ (w : World) (a b : Int), (Op.equalIn (d + 2) 22 (.int .u64 a) (.int .u64 b)).run Tryd.prog w = .ok (a == b) w := fun w a b => run_equalIn_int w (d + 1) _ _ .u64 a b Tryd.underlying22
  have hE : ∀ (w : World) (a b a' b' : Int), (Op.equalIn (d + 2) 25 (.agg #[.int .u64 a, .int .u64 b]) (.agg #[.int .u64 a', .int .u64 b'])).run Tryd.prog w = .ok (a == a' && b == b') w := fun w a b a' b' => equalIn_Ed d w a b a' b'
  unfold Op.equalIn
  simp only [Sem.run_bind, run_underlying Tryd.underlying36]
  cases h : (x == x' && y == y') with
  | true =>
    cases h2 : (z == z') with
    | true => simp [go_sem, hA, hA2, hI, hE, List.range', h, h2]
    | false => simp [go_sem, hA, hA2, hI, hE, List.range', h, h2]
  | false => simp [go_sem, hA, hA2, hI, hE, List.range', h]
theorem equal_Sig (w : World) (x y z x' y' z' : Int) : (Op.equalIn 10000 36 (.agg #[.int .u64 x, .int .u64 y, .int .u64 z]) (.agg #[.int .u64 x', .int .u64 y', .int .u64 z'])).run Tryd.prog w = .ok ((x == x' && y == y') && z == z') w := equalIn_Sig 9997 w x y z x' y' z'
theorem ggenW (w : World) : Calls Tryd.prog 13 #[] w fun e w' => e = .returned (.agg #[.int .u64 223588670687113535, .int .u64 82055451961885530]) ∧ Below w.heap.size w w' := by
  go_enter Tryd.func13, Tryd.ntmps13
  go_wp2
  exact bodyPost_ret (v := .agg #[.int .u64 223588670687113535, .int .u64 82055451961885530]) (by simp [results, Tryd.results13, go_sem]) rfl ⟨rfl, by (repeat' (first | (with_reducible first | exact Below.refl _ _ | assumption | refine Below.alloc ?_ ?_ _ | refine Below.drew ?_ | refine below_drewN ?_ _ | refine Below.setCell ?_ ?_ _ | refine below_via (by with_reducible assumption) ?_ ?_) | omega | (simp only [szs]; omega) | (simp only [szs] at *; omega)))⟩
/-- A multiple of the first point, as the document reckons it. -/
theorem gtimesG (k : Nat) (hk : k < 18446744073709551616) (w : World) :
    Calls Tryd.prog 12 #[.agg #[.int .u64 223588670687113535, .int .u64 82055451961885530], .int .u64 k] w fun e w' => e = .returned (edV (Ob.gmul Ob.gGen k)) ∧ Below w.heap.size w w' := gtimesW Ob.onG_gen k hk w
theorem key_core (k : Int) (q : Bool) (w : World) (h : (0 < k ∧ decide (k < 72057593894066549) = q) ∨ (¬ 0 < k ∧ q = false)) : Calls Tryd.prog 11 #[.int .u64 k] w fun e w' => e = .returned (.bool q) ∧ w = w' := by
  rcases h with ⟨h0, h1⟩ | ⟨h0, rfl⟩
  · go_enter Tryd.func11, Tryd.ntmps11
    go_wp2
    go_ret
    exact ⟨rfl, rfl⟩
  · go_enter Tryd.func11, Tryd.ntmps11
    go_wp2
    go_ret
    exact ⟨rfl, rfl⟩
theorem keyW (k : Nat) (w : World) : Calls Tryd.prog 11 #[.int .u64 k] w fun e w' => e = .returned (.bool (isKey k)) ∧ w = w' := by
  refine key_core k _ w ?_
  unfold isKey
  by_cases h0 : 0 < k
  · refine Or.inl ⟨by omega, ?_⟩
    by_cases h1 : k < 72057593894066549
    · rw [decide_eq_true (by omega), decide_eq_true ⟨h0, h1⟩]
    · rw [decide_eq_false (by omega), decide_eq_false (fun h => h1 h.2)]
  · exact Or.inr ⟨by omega, decide_eq_false (fun h => h0 h.1)⟩
set_option maxRecDepth 4000 in
set_option maxHeartbeats 4000000 in
theorem spoints_no (k : Int) (w : World)
   (cu : Calls Tryd.prog 9 #[] w fun e w' => e = .returned (.bool true) ∧ Below w.heap.size w w')
   (cp : ∀ W, Below w.heap.size w W → Calls Tryd.prog 10 #[.int .u64 k] W fun e w' => e = .returned (.tuple #[.agg #[.int .u64 0, .int .u64 0], .iface 31 (.int .i64 1)]) ∧ Below W.heap.size W w')
   (ck : ∀ w, Calls Tryd.prog 11 #[.int .u64 k] w fun e w' => e = .returned (.bool false) ∧ w = w') :
    Calls Tryd.prog 3 #[.int .u64 k] w fun e w' => e = .returned (.bool true) ∧ Below w.heap.size w w' := by
  have ec := fun w => eql_code w 1 1
  have he := fun w => equal_same9 w 0 0
  go_enter Tryd.func3, Tryd.ntmps3
  go_wp2_with (first | (go_at_call 9; (with_reducible refine cu.mono ?_); rintro e w1 ⟨rfl, b1⟩; have z1 := b1.size) | (go_at_call 10; (with_reducible refine (cp _ b1).mono ?_); rintro e w2 ⟨rfl, b2⟩; have z2 := b2.size) | (first | (go_at_call 11; first | (with_reducible refine (ck _).mono ?_; rintro e w' ⟨rfl, rfl⟩))))
  go_ret
  exact ⟨rfl, by (repeat' (first | (with_reducible first | exact Below.refl _ _ | assumption | refine Below.alloc ?_ ?_ _ | refine Below.drew ?_ | refine below_drewN ?_ _ | refine Below.setCell ?_ ?_ _ | refine below_via (by with_reducible assumption) ?_ ?_) | omega | (simp only [szs]; omega) | (simp only [szs] at *; omega)))⟩
set_option maxRecDepth 4000 in
set_option maxHeartbeats 4000000 in
theorem spoints_yes (k px py : Int) (w : World)
   (cu : Calls Tryd.prog 9 #[] w fun e w' => e = .returned (.bool true) ∧ Below w.heap.size w w')
   (cp : ∀ W, Below w.heap.size w W → Calls Tryd.prog 10 #[.int .u64 k] W fun e w' => e = .returned (.tuple #[.agg #[.int .u64 px, .int .u64 py], .nilIface]) ∧ Below W.heap.size W w')
   (ck : ∀ w, Calls Tryd.prog 11 #[.int .u64 k] w fun e w' => e = .returned (.bool true) ∧ w = w')
   (ct : ∀ w, Calls Tryd.prog 12 #[.agg #[.int .u64 223588670687113535, .int .u64 82055451961885530], .int .u64 k] w fun e w' => e = .returned (.agg #[.int .u64 px, .int .u64 py]) ∧ Below w.heap.size w w') :
    Calls Tryd.prog 3 #[.int .u64 k] w fun e w' => e = .returned (.bool true) ∧ Below w.heap.size w w' := by
  have he := fun w => equal_same9 w px py
  have cg := ggenW
  go_enter Tryd.func3, Tryd.ntmps3
  go_upto_region 3 with (first | (go_at_call 9; (with_reducible refine cu.mono ?_); rintro e w1 ⟨rfl, b1⟩; have z1 := b1.size) | (go_at_call 10; (with_reducible refine (cp _ b1).mono ?_); rintro e w2 ⟨rfl, b2⟩; have z2 := b2.size))
  have t3 : Two (w2.alloc (.cells #[.int .u64 px, .int .u64 py] 25)) w2.heap.size (.int .u64 px) (.int .u64 py) := by (repeat' (first | (with_reducible first | assumption | exact Two.own (by with_reducible assumption) | refine Two.set ?_ _ _ | refine Own2.set ?_ _ _ | refine Two.drew ?_ | refine Two.drewN ?_ _ | refine Own2.drew ?_ | refine Own2.drewN ?_ _ | (refine Two.new ?_; simp only [szs]; done) | (refine Own2.new ?_; simp only [szs]; done) | refine Two.alloc ?_ _ | refine Own2.alloc ?_ _ | refine Two.far ?_ ?_ _ _ | refine Own2.far ?_ ?_ _ _ | refine Two.via (by with_reducible assumption) ?_ ?_ | refine Own2.via (by with_reducible assumption) ?_ ?_) | omega | (simp only [szs]; omega)))
  have hB3 : Below w.heap.size w (w2.alloc (.cells #[.int .u64 px, .int .u64 py] 25)) := by (repeat' (first | (with_reducible first | exact Below.refl _ _ | assumption | refine Below.alloc ?_ ?_ _ | refine Below.drew ?_ | refine below_drewN ?_ _ | refine Below.setCell ?_ ?_ _ | refine below_via (by with_reducible assumption) ?_ ?_) | omega | (simp only [szs]; omega) | (simp only [szs] at *; omega)))
  generalize (w2.alloc (.cells #[.int .u64 px, .int .u64 py] 25)) = V at *
  generalize w2.heap.size = ba at *
  clear b1 z1 b2 z2 cu cp
  go_wp2_with (first | (go_at_call 11; first | (with_reducible refine (ck _).mono ?_; rintro e w' ⟨rfl, rfl⟩)))
  have ⟨d1, d2, d3, d4, d5⟩ := t3
  have zB := hB3.size
  go_region_held3 (fun w' => w'.cell? ⟨ba, 0, none⟩ = some (.int .u64 px) ∧ w'.cell? ⟨ba, 1, none⟩ = some (.int .u64 py)) (go_keep)
    ((first | (go_at_call 13; first | (with_reducible refine (cg _).mono ?_; rintro e w_cg ⟨rfl, b_cg⟩; have z_cg := b_cg.size; (try simp only [szs] at z_cg); (try (have q_cg_0 := own2 b_cg (ba) (by first | omega | (simp only [szs]; omega)))))) | (go_at_call 12; first | (with_reducible refine (ct _).mono ?_; rintro e w_ct ⟨rfl, b_ct⟩; have z_ct := b_ct.size; (try simp only [szs] at z_ct); (try (have q_ct_0 := own2 b_ct (ba) (by first | omega | (simp only [szs]; omega))))))))
  go_wp2
  go_ret
  exact ⟨rfl, by (repeat' (first | (with_reducible first | exact Below.refl _ _ | assumption | refine Below.alloc ?_ ?_ _ | refine Below.drew ?_ | refine below_drewN ?_ _ | refine Below.setCell ?_ ?_ _ | refine below_via (by with_reducible assumption) ?_ ?_) | omega | (simp only [szs]; omega) | (simp only [szs] at *; omega)))⟩
end Go.Proofs.YtdhbkhmknnlmnaaDoor

namespace Go.Proofs.YtdhbkhmknnlmnaaDoor
open Go.RowKit Go.Proofs
set_option linter.unusedVariables false
set_option linter.unusedSimpArgs false
attribute [local go_sem ↓] Go.wp_at_zero Go.wp_at_succ

set_option maxHeartbeats 1000000 in
theorem gbytes_core (x y n : Nat) (o : Bool) (w : World) (hx : decide ((x : Int) % 2 = 1) = o)
   (c0 : ∀ w, Calls Tryd.prog 49 #[.int .u64 n] w fun e w' => e = .returned (.slice (some ⟨w.heap.size, 0, none⟩) 8 8) ∧ Bys w' w.heap.size 0 8 (Ob.byteAt n) ∧ Below w.heap.size w w')
   (ho : (o = true ∧ (y : Int) + 9223372036854775808 = (n : Int) ∧ n < 18446744073709551616) ∨ (o = false ∧ n = y)) :
    Calls Tryd.prog 29 #[.agg #[.int .u64 x, .int .u64 y]] w fun e w' => ∃ g, e = .returned (.slice (some ⟨g, 0, none⟩) 8 8) ∧ w.heap.size ≤ g ∧ Bys w' g 0 8 (Ob.byteAt n) ∧ Below w.heap.size w w' := by
  rcases ho with ⟨rfl, hb, hn⟩ | ⟨rfl, rfl⟩
  · have h1 : (x : Int) % 2 = 1 := of_decide_eq_true hx
    clear hx
    go_enter Tryd.func29, Tryd.ntmps29
    go_wp2_with (go_at_call 49; with_reducible refine (c0 _).mono ?_; rintro e W2 ⟨rfl, y2, b2⟩)
    go_ret
    simp only [World.size_alloc] at y2 b2
    exact ⟨_, rfl, by omega, y2, by (repeat' (first | (with_reducible first | exact Below.refl _ _ | assumption | refine Below.alloc ?_ ?_ _ | refine Below.drew ?_ | refine below_drewN ?_ _ | refine Below.setCell ?_ ?_ _ | refine below_via (by with_reducible assumption) ?_ ?_) | omega | (simp only [szs]; omega) | (simp only [szs] at *; omega)))⟩
  · have h1 : (x : Int) % 2 = 0 := by have := of_decide_eq_false hx; omega
    clear hx
    go_enter Tryd.func29, Tryd.ntmps29
    go_wp2_with (go_at_call 49; with_reducible refine (c0 _).mono ?_; rintro e W2 ⟨rfl, y2, b2⟩)
    go_ret
    simp only [World.size_alloc] at y2 b2
    exact ⟨_, rfl, by omega, y2, by (repeat' (first | (with_reducible first | exact Below.refl _ _ | assumption | refine Below.alloc ?_ ?_ _ | refine Below.drew ?_ | refine below_drewN ?_ _ | refine Below.setCell ?_ ?_ _ | refine below_via (by with_reducible assumption) ?_ ?_) | omega | (simp only [szs]; omega) | (simp only [szs] at *; omega)))⟩
theorem gbytesW (u : Ob.Ep) (w : World) :
    Calls Tryd.prog 29 #[edV u] w fun e w' => ∃ g, e = .returned (.slice (some ⟨g, 0, none⟩) 8 8) ∧ w.heap.size ≤ g ∧ Bys w' g 0 8 (Ob.byteAt (Ob.edN u)) ∧ Below w.heap.size w w' := by
  have hl := Ob.edN_lt u
  refine gbytes_core u.1.val u.2.val (Ob.edN u) _ w rfl (fun w => rbytesW (Ob.edN u) hl w) ?_
  by_cases h : u.1.val % 2 = 1
  · exact Or.inl ⟨decide_eq_true (by omega), by rw [Ob.edN, if_pos h]; omega, hl⟩
  · exact Or.inr ⟨decide_eq_false (by omega), by rw [Ob.edN, if_neg h]⟩

end Go.Proofs.YtdhbkhmknnlmnaaDoor
