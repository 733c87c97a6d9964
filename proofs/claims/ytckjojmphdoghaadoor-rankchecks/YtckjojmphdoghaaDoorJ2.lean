/-
  Joined texts: Errors that are codes, compared. errors.Is of a Spot and a Code: by what the model's entries for types answer. What the statements of all layers ask of errors: which Code one is; whether it is a Spot with its place. The head of layer 11's statements, over what package rank's Holds answers. The library's contracts on package math/bits (and the like), laid at this seat's program: each an application of what the shelf proves over any program. The arithmetic under math/bits.Div64: one digit of the school division by two digits of 32 bits; and that shifting both sides by s changes nothing but the remainder's scale. The walk of math/bits.Div64. The walks of package modular: each function's contract in plain numbers. The exported sums, differences, products and powers of package modular. Euclid's way with one factor beside it: what holds at every round, and what is told at the end; the inverse modulo m. The walks of modular.euclid and modular.Inv. The walks of the document's own answers for layer 1 (package obolref01). The walks of the document's own answers for layer 7 (package obolref07): numbers modulo R, points, their sums. Regions that draw their order and end in a store into what they read: the condition on the world need not be met behind those last operations. The document's own answers of layer 11 (package obolref11): sound lists, values. Rows of one's own, behind what leaves them as they are.
-/
import Derived.Test.YtckjojmphdoghaaDoorJ1
import Derived.WalkKit
import Derived.LaidEql
import Derived.Stop.Asserts
import Derived.RowKitTokens
import Derived.Shelf.Small.Bits
import Derived.Shelf.Strconv.Itoa0
import Derived.Shelf.Bits.Mul64
import Derived.Test.YtckjojmphdoghaaDoorProg
import Derived.WalkLawsBesides
import Derived.Outline
import Derived.Deep.QuietTactic
import Derived.BigQuiet
import Derived.Deep.DeepCutAuto
import Derived.Deep.CutBlock
import Derived.Laws.Bits64b
import Derived.Deep.RegionWith
import Derived.LoopTactic
import Derived.Deep.RegionHeld3
import Derived.Laws.AppendOwn

namespace Go.Proofs.YtckjojmphdoghaaDoor
open Go.RowKit Go.Proofs
set_option linter.unusedVariables false
set_option linter.unusedSimpArgs false

theorem codeInfo : ∃ i, Tryd.prog.info? 30 = some i ∧ i.comparable = true := by
  have h : (Tryd.prog.info? 30).map (·.comparable) = some true := by kernel_rfl
  cases hi : Tryd.prog.info? 30 with
  | none => rw [hi] at h; cases h
  | some i => rw [hi] at h; exact ⟨i, rfl, Option.some.inj h⟩
/-- Two errors that are codes are compared as their numbers. -/
theorem equalIn_code (d : Nat) (w : World) (a b : Int) : (Op.equalIn (d + 2) 28 (.iface 30 (.int .i64 a)) (.iface 30 (.int .i64 b))).run Tryd.prog w = .ok (a == b) w := by
  obtain ⟨i, hi, hc⟩ := codeInfo
  simp [Op.equalIn, run_underlying Tryd.underlying28, run_underlying Tryd.underlying30, typeInfo, hi, hc]
theorem eql_code (w : World) (a b : Int) : (binOp .eql 28 (.iface 30 (.int .i64 a)) (.iface 30 (.int .i64 b))).run Tryd.prog w = .ok (.bool (a == b)) w := by
  have h := equalIn_code (Op.maxDepth - 2) w a b
  have e : Op.maxDepth - 2 + 2 = Op.maxDepth := by decide +kernel
  rw [e] at h
  simp only [binOp]
  simp [Op.equal, h]
end Go.Proofs.YtckjojmphdoghaaDoor

namespace Go.Proofs.YtckjojmphdoghaaDoor
open Go.RowKit Go.Proofs Go.Extern.Stop Go.Stop Go.Extern
set_option linter.unusedVariables false
set_option linter.unusedSimpArgs false
attribute [local go_sem ↓] Go.wp_at_zero Go.wp_at_succ

theorem rl_mComp (h : Value) (w : World) : (Go.method 255 89 h "Comparable").run Tryd.prog w = .ok (99, h) w := by kernel_rfl
/-- A Spot's pointer and a Code aren't the same error. -/
theorem equalIn_spot_code (d : Nat) (w : World) (p : Value) (c : Int) : (Op.equalIn (d + 2) 28 (.iface 57 p) (.iface 30 (.int .i64 c))).run Tryd.prog w = .ok false w := by
  simp [Op.equalIn, run_underlying Tryd.underlying28]
theorem ne_spot_code (p : Value) (c : Int) (w : World) : (binOp .eql 28 (.iface 57 p) (.iface 30 (.int .i64 c))).run Tryd.prog w = .ok (.bool false) w := by
  have h := equalIn_spot_code (Op.maxDepth - 2) w p c
  have e : Op.maxDepth - 2 + 2 = Op.maxDepth := by decide +kernel
  rw [e] at h
  simp only [binOp]
  simp [Op.equal, h]
theorem is_typeOf (v : Value) (w : World) : (ReflectliteType.typeOf #[.iface 30 v]).run Tryd.prog w = .ok (.iface 89 (.agg #[.pointer (some ⟨3, 30, none⟩)])) w := by kernel_rfl
theorem is_compar (w : World) : ((ReflectliteType.method fun t => do Rtype.noPackHeld "Comparable" t; (fun a => Value.bool a.comparable) <$> typeInfo t) #[.agg #[.pointer (some ⟨3, 30, none⟩)]]).run Tryd.prog w = .ok (.bool true) w := by kernel_rfl
theorem is_mUnwrap (v : Value) (w : World) : (Go.method 255 57 v "Unwrap").run Tryd.prog w = .ok (93, v) w := by kernel_rfl
theorem is_noIs (v : Value) (xT : TypeId) (w : World) : (Instr.typeAssert (.iface 57 v) xT 101 true).run Tryd.prog w = .ok (.tuple #[.nilIface, .bool false]) w := run_typeAssert_lacksB Tryd.underlying101 (by kernel_rfl) (by kernel_rfl) v xT w
theorem is_hasUn (v : Value) (xT : TypeId) (w : World) : (Instr.typeAssert (.iface 57 v) xT 96 true).run Tryd.prog w = .ok (.tuple #[.iface 57 v, .bool true]) w := run_typeAssert_hasB Tryd.underlying96 (by kernel_rfl) v xT w
set_option maxHeartbeats 4000000 in
theorem is_spot (b : Nat) (c : Int) (w : World) (he : w.cell? ⟨b, 1, none⟩ = some (.iface 30 (.int .i64 c))) :
    Calls Tryd.prog 33 #[.iface 57 (.pointer (some ⟨b, 0, none⟩)), .iface 30 (.int .i64 c)] w fun e w' => e = .returned (.bool true) ∧ w = w' := by
  have h8 := @run_callFunc_extern Tryd.prog 47 _ ReflectliteType.typeOf Tryd.func47 (by kernel_rfl) (by kernel_rfl) (by kernel_rfl) (by kernel_rfl)
  have h32 := @run_callFunc_extern Tryd.prog 99 _ (ReflectliteType.method fun t => do Rtype.noPackHeld "Comparable" t; pure (.bool (← typeInfo t).comparable)) Tryd.func99 (by kernel_rfl) (by kernel_rfl) (by kernel_rfl) (by kernel_rfl)
  have e1 := ne_spot_code
  have e2 := fun w => eql_code w c c
  have tT := is_typeOf
  have cT := is_compar
  have mR := rl_mComp
  have mU := is_mUnwrap
  have nI := is_noIs
  have hU := is_hasUn
  go_enter Tryd.func33, Tryd.ntmps33
  go_wp2
  refine wp_loop_rounds 2 ?_
  rw [rounds_succ]
  go_wp2
  rw [rounds_succ]
  go_wp2
  go_ret
  exact ⟨rfl, rfl⟩
end Go.Proofs.YtckjojmphdoghaaDoor

namespace Go.Proofs.YtckjojmphdoghaaDoor
open Go.RowKit Go.Proofs
set_option linter.unusedVariables false
set_option linter.unusedSimpArgs false
attribute [local go_sem ↓] Go.wp_at_zero Go.wp_at_succ

theorem spotInfo : (∃ i, Tryd.prog.info? 57 = some i ∧ i.comparable = true) ∧ ∃ j, Tryd.prog.info? 59 = some j := by
  have h1 : (Tryd.prog.info? 57).map (·.comparable) = some true := by kernel_rfl
  have h2 : (Tryd.prog.info? 59).isSome = true := by kernel_rfl
  refine ⟨?_, Option.isSome_iff_exists.1 h2⟩
  cases hi : Tryd.prog.info? 57 with
  | none => rw [hi] at h1; cases h1
  | some i => rw [hi] at h1; exact ⟨i, rfl, Option.some.inj h1⟩
theorem neq_spot (a : Addr) (w : World) : (binOp .neq 28 (.iface 57 (.pointer (some a))) (.iface 57 (.pointer (some a)))).run Tryd.prog w = .ok (.bool false) w := by
  obtain ⟨⟨i, hi, hc⟩, j, hj⟩ := spotInfo
  have h := run_equalIn_iface_ptr_same (P := Tryd.prog) w (Op.maxDepth - 2) a Tryd.underlying28 Tryd.underlying57 hi hc hj
  have e : Op.maxDepth - 2 + 2 = Op.maxDepth := by decide +kernel
  rw [e] at h
  simp only [binOp]
  simp [Op.equal, h]
theorem code_nil (w : World) : Calls Tryd.prog 31 #[.nilIface] w fun e w' => e = .returned (.int .i64 0) ∧ w = w' := by
  go_enter Tryd.func31, Tryd.ntmps31
  go_wp2
  go_ret
  exact ⟨rfl, rfl⟩
set_option maxHeartbeats 2000000 in
theorem code_is (c : Nat) (h1 : 1 ≤ c) (h2 : c ≤ 15) (w : World) : Calls Tryd.prog 31 #[.iface 30 (.int .i64 (c : Nat))] w fun e w' => e = .returned (.int .i64 (c : Nat)) ∧ w = w' := by
  go_enter Tryd.func31, Tryd.ntmps31
  go_wp2
  go_loopw [3] (fun si wr => ∃ j : Nat, 1 ≤ j ∧ j ≤ c ∧ si = .int .i64 j ∧ w = wr) (fun si _ => c - (intOf si).toNat)
  case atStart => exact ⟨1, by omega, h1, rfl, rfl⟩
  case round =>
    obtain ⟨j, hj1, hj2, rfl, rfl⟩ := hrel
    have h3 : (j : Int) ≤ 15 := by omega
    by_cases hjc : j = c
    · subst hjc
      have e := fun w => eql_code w j j
      go_wp2
      go_ret
      exact ⟨rfl, rfl⟩
    · have e := fun w => eql_code w c j
      have e2 : ((c : Int) == (j : Int)) = false := by rw [beq_eq_false_iff_ne]; omega
      go_wp2
      go_roundw
      case rel => exact ⟨j + 1, by omega, by omega, by go_num, by first | rfl | trivial⟩
      case measure => (simp [intOf]; omega)
set_option maxHeartbeats 4000000 in
theorem is00 (b : Nat) (at_ c : Int) (w : World) (hg : ErrTy w) (t : Two w b (.int .i64 at_) (.iface 30 (.int .i64 c))) :
    Calls Tryd.prog 20 #[.iface 57 (.pointer (some ⟨b, 0, none⟩)), .int .i64 at_, .int .i64 c] w fun e w' => e = .returned (.bool true) ∧ Below w.heap.size w w' := by
  have hlt := t.lt
  have hgl := hg.lt
  have nq := neq_spot ⟨b, 0, none⟩
  have ec := fun w => eql_code w c c
  have hg1 : ErrTy (w.alloc (.cells #[.pointer none] 57)) := hg.below ((Below.refl w.heap.size w).alloc (Nat.le_refl _) _) hgl
  have cA := as_below ⟨b, 0, none⟩ ⟨w.heap.size, 0, none⟩ (.pointer none) (w.alloc (.cells #[.pointer none] 57)) hg1 (by simp [go_sem]) (by simp [go_sem])
  go_enter Tryd.func20, Tryd.ntmps20
  go_upto_region 3 with (go_at_call 32; (with_reducible refine cA.mono ?_); rintro e w1 ⟨rfl, W, hW, rfl⟩)
  have zW := hW.size
  simp only [szs] at zW
  have t1 : Two (W.setCell ⟨w.heap.size, 0, none⟩ (.pointer (some ⟨b, 0, none⟩))) b (.int .i64 at_) (.iface 30 (.int .i64 c)) := by (repeat' (first | (with_reducible first | assumption | exact Two.own (by with_reducible assumption) | refine Two.set ?_ _ _ | refine Own2.set ?_ _ _ | refine Two.drew ?_ | refine Two.drewN ?_ _ | refine Own2.drew ?_ | refine Own2.drewN ?_ _ | (refine Two.new ?_; simp only [szs]; done) | (refine Own2.new ?_; simp only [szs]; done) | refine Two.alloc ?_ _ | refine Own2.alloc ?_ _ | refine Two.far ?_ ?_ _ _ | refine Own2.far ?_ ?_ _ _ | refine Two.via (by with_reducible assumption) ?_ ?_ | refine Own2.via (by with_reducible assumption) ?_ ?_) | omega | (simp only [szs]; omega)))
  have s1 : (W.setCell ⟨w.heap.size, 0, none⟩ (.pointer (some ⟨b, 0, none⟩))).cell? ⟨w.heap.size, 0, none⟩ = some (.pointer (some ⟨b, 0, none⟩)) := by
    refine World.cell?_setCell_same _ _ _ (u := .pointer none) ?_
    rw [(bcell hW).1 w.heap.size 0 (by simp only [szs]; omega)]
    simp [go_sem]
  have hB : Below w.heap.size w (W.setCell ⟨w.heap.size, 0, none⟩ (.pointer (some ⟨b, 0, none⟩))) := by (repeat' (first | (with_reducible first | exact Below.refl _ _ | assumption | refine Below.alloc ?_ ?_ _ | refine Below.drew ?_ | refine below_drewN ?_ _ | refine Below.setCell ?_ ?_ _ | refine below_via (by with_reducible assumption) ?_ ?_) | omega | (simp only [szs]; omega) | (simp only [szs] at *; omega)))
  generalize (W.setCell ⟨w.heap.size, 0, none⟩ (.pointer (some ⟨b, 0, none⟩))) = V at *
  have n1 : b ≠ w.heap.size := by omega
  clear cA hW zW hg1 t
  have ⟨d1, d2, d3, d4, d5⟩ := t1
  have cI := is_spot b c V t1.c1
  go_wp2_with (go_at_call 33; (with_reducible refine cI.mono ?_); rintro e w2 ⟨rfl, rfl⟩)
  go_ret
  exact ⟨rfl, hB⟩
theorem told_code (err : Value) (bad k at_ : Int) (w : World) (hat : at_ < 0)
   (cc : ∀ w, Calls Tryd.prog 31 #[err] w fun e w' => e = .returned (.int .i64 k) ∧ w = w') :
    Calls Tryd.prog 19 #[err, .int .i64 bad, .int .i64 at_] w fun e w' => e = .returned (.bool (k == bad)) ∧ w = w' := by
  go_enter Tryd.func19, Tryd.ntmps19
  go_wp2_with (first | (go_at_call 31; first | (with_reducible refine (cc _).mono ?_; rintro e w' ⟨rfl, rfl⟩)))
  go_ret
  exact ⟨rfl, rfl⟩
theorem told_spot (b : Nat) (at_ c : Int) (w : World) (hat : ¬ at_ < 0) (hg : ErrTy w) (t : Two w b (.int .i64 at_) (.iface 30 (.int .i64 c))) :
    Calls Tryd.prog 19 #[.iface 57 (.pointer (some ⟨b, 0, none⟩)), .int .i64 c, .int .i64 at_] w fun e w' => e = .returned (.bool true) ∧ Below w.heap.size w w' := by
  have c0 := is00 b at_ c w hg t
  go_enter Tryd.func19, Tryd.ntmps19
  go_wp2_with (go_at_call 20; (with_reducible refine c0.mono ?_); rintro e w1 ⟨rfl, b1⟩)
  go_ret
  exact ⟨rfl, b1⟩
theorem told_is {B : Nat} {er : Value} {bad at_ : Int} (w : World) (h : ErrIs B w er bad at_) (hg : ErrTy w) :
    Calls Tryd.prog 19 #[er, .int .i64 bad, .int .i64 at_] w fun e w' => e = .returned (.bool true) ∧ Below w.heap.size w w' := by
  rcases h with ⟨rfl, rfl, rfl⟩ | ⟨rfl, ⟨h1, h2⟩, rfl⟩ | ⟨h1, b, rfl, _, t⟩
  · exact (told_code .nilIface 0 0 (-1) w (by decide) code_nil).mono fun e w' ⟨h1, h2⟩ => ⟨h1, by subst h2; exact Below.refl _ _⟩
  · obtain ⟨c, rfl⟩ : ∃ c : Nat, bad = (c : Int) := ⟨bad.toNat, by omega⟩
    exact (told_code _ c c (-1) w (by decide) (code_is c (by omega) (by omega))).mono fun e w' ⟨h1, h2⟩ => ⟨by rw [h1]; simp, by subst h2; exact Below.refl _ _⟩
  · exact told_spot b at_ bad w (by omega) hg t
end Go.Proofs.YtckjojmphdoghaaDoor

namespace Go.Proofs.YtckjojmphdoghaaDoor
open Go.RowKit Go.Proofs
set_option linter.unusedVariables false
set_option linter.unusedSimpArgs false
attribute [local go_sem ↓] Go.wp_at_zero Go.wp_at_succ
/-- A row of one term thrice. -/
def oneL (b : Nat) : Lst := ⟨some ⟨b, 0, none⟩, 1, 1, fun _ => 1, fun _ => 1⟩
theorem oneL_ok (b : Nat) : (oneL b).Ok := ⟨fun _ => (by show (-9223372036854775808 : Int) ≤ 1; decide), fun _ => (by show (1 : Int) < 9223372036854775808; decide), fun _ => (by show 1 < 18446744073709551616; decide), Nat.le_refl _, (by show 1 ≤ 9223372036854775807; decide)⟩
theorem one_good (b : Nat) : HoldIs 2 0 1 (fun _ _ => oneL b) 2 (fun _ => 1) 0 (-1) := Or.inr (Or.inr (Or.inr ⟨by kernel_rfl, by kernel_rfl, by kernel_rfl, rfl, rfl⟩))
def onetwo (i : Nat) : Nat := if i = 0 then 1 else 2
theorem one_bad (b : Nat) : HoldIs 2 0 1 (fun _ _ => oneL b) 2 onetwo 8 0 := Or.inr (Or.inr (Or.inl ⟨by kernel_rfl, by kernel_rfl, 0, by decide, by kernel_rfl, by kernel_rfl, rfl, rfl⟩))
theorem one_rows {W : World} {b r : Nat} (h0 : W.cell? ⟨b, 0, none⟩ = some (.int .i64 1)) (h1 : W.cell? ⟨b, 1, none⟩ = some (.int .u64 1)) (hb : b < W.heap.size)
   (r0 : W.cell? ⟨r, 0, none⟩ = some (.slice (some ⟨b, 0, none⟩) 1 1)) (r1 : W.cell? ⟨r, 1, none⟩ = some (.slice (some ⟨b, 0, none⟩) 1 1)) (r2 : W.cell? ⟨r, 2, none⟩ = some (.slice (some ⟨b, 0, none⟩) 1 1)) (hr : r < W.heap.size) : RowsAt W.heap.size W (some ⟨r, 0, none⟩) 1 (fun _ _ => oneL b) := by
  refine Or.inr ⟨r, 0, rfl, hr, fun i hi j hj => ?_, fun i hi j hj => ?_⟩
  · obtain rfl : i = 0 := by omega
    obtain rfl | rfl | rfl : j = 0 ∨ j = 1 ∨ j = 2 := by omega
    · exact r0
    · exact r1
    · exact r2
  · refine Or.inr ⟨b, 0, rfl, hb, hb, fun k hk => ?_, fun k hk => ?_⟩
    · obtain rfl : k = 0 := by have : k < 1 := hk; omega
      exact h0
    · obtain rfl : k = 0 := by have : k < 1 := hk; omega
      exact h1
theorem two_src {W : World} {b : Nat} (x : Nat → Nat) (h0 : W.cell? ⟨b, 0, none⟩ = some (.int .u64 (x 0 : Nat))) (h1 : W.cell? ⟨b, 1, none⟩ = some (.int .u64 (x 1 : Nat))) (hb : b < W.heap.size) : SrcW W.heap.size W (some ⟨b, 0, none⟩) 2 x := by
  refine SrcW.of ⟨hb, fun i hi => ?_⟩
  obtain rfl | rfl : i = 0 ∨ i = 1 := by omega
  · exact h0
  · exact h1
set_option maxHeartbeats 4000000 in
theorem up11_of (hH : HoldsC 17) (w : World) (hg : ErrTy w) :
    Calls Tryd.prog 8 #[] w fun e w' => e = .returned (.bool true) ∧ Below w.heap.size w w' := by
  have hgl := hg.lt
  have hg' : Hid (ErrTy w) := hg
  have hH' : Hid (HoldsC 17) := hH
  clear hg hH
  go_enter Tryd.func8, Tryd.ntmps8
  go_upto_region 3 with (fail)
  have hB : Below w.heap.size w (((w.alloc (.cells #[.int .i64 1, .int .u64 1] 46)).alloc (.cells #[.slice (some ⟨w.heap.size, 0, none⟩) 1 1, .slice (some ⟨w.heap.size, 0, none⟩) 1 1, .slice (some ⟨w.heap.size, 0, none⟩) 1 1] 44)).alloc (.cells #[.int .i64 2, .int .i64 0, .slice (some ⟨w.heap.size + 1, 0, none⟩) 1 1] 24)) := by (repeat' (first | (with_reducible first | exact Below.refl _ _ | assumption | refine Below.alloc ?_ ?_ _ | refine Below.drew ?_ | refine below_drewN ?_ _ | refine Below.setCell ?_ ?_ _ | refine below_via (by with_reducible assumption) ?_ ?_) | omega | (simp only [szs]; omega) | (simp only [szs] at *; omega)))
  have t0 : Two (((w.alloc (.cells #[.int .i64 1, .int .u64 1] 46)).alloc (.cells #[.slice (some ⟨w.heap.size, 0, none⟩) 1 1, .slice (some ⟨w.heap.size, 0, none⟩) 1 1, .slice (some ⟨w.heap.size, 0, none⟩) 1 1] 44)).alloc (.cells #[.int .i64 2, .int .i64 0, .slice (some ⟨w.heap.size + 1, 0, none⟩) 1 1] 24)) w.heap.size (.int .i64 1) (.int .u64 1) := by (repeat' (first | (with_reducible first | assumption | exact Two.own (by with_reducible assumption) | refine Two.set ?_ _ _ | refine Own2.set ?_ _ _ | refine Two.drew ?_ | refine Two.drewN ?_ _ | refine Own2.drew ?_ | refine Own2.drewN ?_ _ | (refine Two.new ?_; simp only [szs]; done) | (refine Own2.new ?_; simp only [szs]; done) | refine Two.alloc ?_ _ | refine Own2.alloc ?_ _ | refine Two.far ?_ ?_ _ _ | refine Own2.far ?_ ?_ _ _ | refine Two.via (by with_reducible assumption) ?_ ?_ | refine Own2.via (by with_reducible assumption) ?_ ?_) | omega | (simp only [szs]; omega)))
  have t1 : Three (((w.alloc (.cells #[.int .i64 1, .int .u64 1] 46)).alloc (.cells #[.slice (some ⟨w.heap.size, 0, none⟩) 1 1, .slice (some ⟨w.heap.size, 0, none⟩) 1 1, .slice (some ⟨w.heap.size, 0, none⟩) 1 1] 44)).alloc (.cells #[.int .i64 2, .int .i64 0, .slice (some ⟨w.heap.size + 1, 0, none⟩) 1 1] 24)) (w.heap.size + 1) (.slice (some ⟨w.heap.size, 0, none⟩) 1 1) (.slice (some ⟨w.heap.size, 0, none⟩) 1 1) (.slice (some ⟨w.heap.size, 0, none⟩) 1 1) := by (repeat' (first | (with_reducible first | assumption | exact Three.own (by with_reducible assumption) | refine Three.set ?_ _ _ _ | refine Own3.set ?_ _ _ _ | refine Three.drew ?_ | refine Three.drewN ?_ _ | refine Own3.drew ?_ | refine Own3.drewN ?_ _ | (refine Three.new ?_; simp only [szs]; done) | (refine Own3.new ?_; simp only [szs]; done) | refine Three.alloc ?_ _ | refine Own3.alloc ?_ _ | refine Three.far ?_ ?_ _ _ | refine Own3.far ?_ ?_ _ _ | refine Three.via (by with_reducible assumption) ?_ ?_ | refine Own3.via (by with_reducible assumption) ?_ ?_) | omega | (simp only [szs]; omega)))
  have t2 : Three (((w.alloc (.cells #[.int .i64 1, .int .u64 1] 46)).alloc (.cells #[.slice (some ⟨w.heap.size, 0, none⟩) 1 1, .slice (some ⟨w.heap.size, 0, none⟩) 1 1, .slice (some ⟨w.heap.size, 0, none⟩) 1 1] 44)).alloc (.cells #[.int .i64 2, .int .i64 0, .slice (some ⟨w.heap.size + 1, 0, none⟩) 1 1] 24)) (w.heap.size + 1 + 1) (.int .i64 2) (.int .i64 0) (.slice (some ⟨w.heap.size + 1, 0, none⟩) 1 1) := by (repeat' (first | (with_reducible first | assumption | exact Three.own (by with_reducible assumption) | refine Three.set ?_ _ _ _ | refine Own3.set ?_ _ _ _ | refine Three.drew ?_ | refine Three.drewN ?_ _ | refine Own3.drew ?_ | refine Own3.drewN ?_ _ | (refine Three.new ?_; simp only [szs]; done) | (refine Own3.new ?_; simp only [szs]; done) | refine Three.alloc ?_ _ | refine Own3.alloc ?_ _ | refine Three.far ?_ ?_ _ _ | refine Own3.far ?_ ?_ _ _ | refine Three.via (by with_reducible assumption) ?_ ?_ | refine Own3.via (by with_reducible assumption) ?_ ?_) | omega | (simp only [szs]; omega)))
  generalize (((w.alloc (.cells #[.int .i64 1, .int .u64 1] 46)).alloc (.cells #[.slice (some ⟨w.heap.size, 0, none⟩) 1 1, .slice (some ⟨w.heap.size, 0, none⟩) 1 1, .slice (some ⟨w.heap.size, 0, none⟩) 1 1] 44)).alloc (.cells #[.int .i64 2, .int .i64 0, .slice (some ⟨w.heap.size + 1, 0, none⟩) 1 1] 24)) = W at *
  have hgW : Hid (ErrTy W) := hg'.out.below (B := w.heap.size) hB hgl
  have hgl2 : 0 < W.heap.size := hgW.out.lt
  have ⟨d1, d2, d3, d4, d5, d6, d7⟩ := t2
  have key : ∀ W1 b, Below W.heap.size W W1 → ∀ (x : Nat → Nat), (∀ i, x i < 18446744073709551616) → W1.cell? ⟨b, 0, none⟩ = some (.int .u64 (x 0 : Nat)) → W1.cell? ⟨b, 1, none⟩ = some (.int .u64 (x 1 : Nat)) → b < W1.heap.size → ∀ bad at_, HoldIs 2 0 1 (fun _ _ => oneL w.heap.size) 2 x bad at_ →
      Calls Tryd.prog 17 #[.agg #[.int .i64 2, .int .i64 0, .slice (some ⟨w.heap.size + 1, 0, none⟩) 1 1], .slice (some ⟨b, 0, none⟩) 2 2] W1 fun e w' => ∃ er, e = .returned er ∧ ErrIs W1.heap.size w' er bad at_ ∧ Below W1.heap.size W1 w' := fun W1 b h x hx h0 h1 hb bad at_ hH => by
    have u0 := t0.below h t0.lt
    have u1 := t1.below h t1.lt
    exact hH'.out 2 0 _ 1 1 (fun _ _ => oneL w.heap.size) (fun _ _ => oneL_ok _) (by decide) (by decide) (by decide) (by decide) (by decide) _ 2 2 (by decide) x hx bad at_ hH W1 (one_rows u0.c0 u0.c1 u0.lt u1.c0 u1.c1 u1.c2 u1.lt) (two_src x h0 h1 hb)
  have key' : Hid (∀ W1 b, Below W.heap.size W W1 → ∀ (x : Nat → Nat), (∀ i, x i < 18446744073709551616) → W1.cell? ⟨b, 0, none⟩ = some (.int .u64 (x 0 : Nat)) → W1.cell? ⟨b, 1, none⟩ = some (.int .u64 (x 1 : Nat)) → b < W1.heap.size → ∀ bad at_, HoldIs 2 0 1 (fun _ _ => oneL w.heap.size) 2 x bad at_ →
      Calls Tryd.prog 17 #[.agg #[.int .i64 2, .int .i64 0, .slice (some ⟨w.heap.size + 1, 0, none⟩) 1 1], .slice (some ⟨b, 0, none⟩) 2 2] W1 fun e w' => ∃ er, e = .returned er ∧ ErrIs W1.heap.size w' er bad at_ ∧ Below W1.heap.size W1 w') := key
  clear key t0 t1 hg' hH'
  go_upto_region 4 with (go_at_call 17; (with_reducible refine (key'.out _ _ (by (repeat' (first | (with_reducible first | exact Below.refl _ _ | assumption | refine Below.alloc ?_ ?_ _ | refine Below.drew ?_ | refine below_drewN ?_ _ | refine Below.setCell ?_ ?_ _ | refine below_via (by with_reducible assumption) ?_ ?_) | omega | (simp only [szs]; omega) | (simp only [szs] at *; omega)))) (fun _ => 1) (fun _ => by decide) (by simp [go_sem]) (by simp [go_sem]) (by simp only [szs]; omega) 0 (-1) (one_good _)).mono ?_); rintro e w1 ⟨er, rfl, i1, b1⟩)
  obtain rfl := i1.nil_iff.2 ⟨rfl, rfl⟩
  have hC1 : Below W.heap.size W w1 := below_via b1 (by (repeat' (first | (with_reducible first | exact Below.refl _ _ | assumption | refine Below.alloc ?_ ?_ _ | refine Below.drew ?_ | refine below_drewN ?_ _ | refine Below.setCell ?_ ?_ _ | refine below_via (by with_reducible assumption) ?_ ?_) | omega | (simp only [szs]; omega) | (simp only [szs] at *; omega)))) (by simp only [szs]; omega)
  have zC1 := hC1.size
  clear i1 b1
  have t3 := t2.below hC1 t2.lt
  clear d1 d2 d3 d4 d5 d6 d7 t2
  have ⟨d1, d2, d3, d4, d5, d6, d7⟩ := t3
  go_upto_region 5 with (go_at_call 17; (with_reducible refine (key'.out _ _ (by (repeat' (first | (with_reducible first | exact Below.refl _ _ | assumption | refine Below.alloc ?_ ?_ _ | refine Below.drew ?_ | refine below_drewN ?_ _ | refine Below.setCell ?_ ?_ _ | refine below_via (by with_reducible assumption) ?_ ?_) | omega | (simp only [szs]; omega) | (simp only [szs] at *; omega)))) onetwo (fun i => (by unfold onetwo; split <;> decide)) (by simp [go_sem, onetwo]) (by simp [go_sem, onetwo]) (by simp only [szs]; omega) 8 0 (one_bad _)).mono ?_); rintro e w2 ⟨er2, rfl, i2, b2⟩)
  have hC2 : Below W.heap.size W w2 := below_via b2 (by (repeat' (first | (with_reducible first | exact Below.refl _ _ | assumption | refine Below.alloc ?_ ?_ _ | refine Below.drew ?_ | refine below_drewN ?_ _ | refine Below.setCell ?_ ?_ _ | refine below_via (by with_reducible assumption) ?_ ?_) | omega | (simp only [szs]; omega) | (simp only [szs] at *; omega)))) (by simp only [szs]; omega)
  have hB2 : Below w.heap.size w w2 := below_via hC2 hB hB.size
  have hg2 : Hid (ErrTy w2) := hgW.out.below (B := W.heap.size) hC2 hgl2
  rcases i2 with ⟨h, _⟩ | ⟨h, _⟩ | ⟨_, b, rfl, hbl, tb⟩
  · cases h
  · cases h
  have cI := is00 b 0 8 w2 hg2.out tb
  clear hC2 b2 hC1 zC1 t3 d1 d2 d3 d4 d5 d6 d7 key' tb
  go_wp2_with (go_at_call 20; (with_reducible refine cI.mono ?_); rintro e w3 ⟨rfl, b3⟩)
  go_ret
  exact ⟨rfl, below_via b3 hB2 hB2.size⟩
end Go.Proofs.YtckjojmphdoghaaDoor

namespace Go.Proofs
open Go.Shelf
def Tryd.lays128_ren : Go.Shelf.Ren := ⟨fun | 128 => 65 | n => n, fun | 51 => 113 | 3 => 3 | 4 => 4 | 46 => 83 | 5 => 5 | 9 => 9 | n => n, fun | n => n⟩
theorem Tryd.lays128 : Go.Proofs.Lays.n128 Tryd.prog Tryd.lays128_ren := {
  mixed := by kernel_rfl
  f128 := Tryd.func65.trans (congrArg some (by kernel_rfl))
  t3 := Tryd.underlying3
  a3 := Tryd.isAgg3
  z3 := Tryd.sizeOf3
  v3 := Tryd.zeroValue3
  t4 := Tryd.underlying4
  a4 := Tryd.isAgg4
  z4 := Tryd.sizeOf4
  v4 := Tryd.zeroValue4
  t5 := Tryd.underlying5
  a5 := Tryd.isAgg5
  z5 := Tryd.sizeOf5
  v5 := Tryd.zeroValue5
  t9 := Tryd.underlying9
  a9 := Tryd.isAgg9
  z9 := Tryd.sizeOf9
  v9 := Tryd.zeroValue9
  t46 := Tryd.underlying83
  a46 := Tryd.isAgg83
  z46 := Tryd.sizeOf83
  v46 := Tryd.zeroValue83
  t51 := Tryd.underlying113
  a51 := Tryd.isAgg113
  z51 := Tryd.sizeOf113
  v51 := Tryd.zeroValue113 }
theorem Tryd.bits_Len32 (x : Int) (w : World) (h0 : 0 ≤ x) (h1 : x ≤ 4294967295) :
    Calls Tryd.prog 65 #[.int .u32 x] w fun e w' => e = .returned (.int .i64 (Lib.bitLen x.toNat)) ∧ w' = w := Any.bits_Len32 Tryd.lays128 x w h0 h1
def Tryd.lays125_ren : Go.Shelf.Ren := ⟨fun | 125 => 50 | 128 => 65 | 129 => 66 | n => n, fun | 46 => 83 | 3 => 3 | 51 => 113 | 53 => 34 | 4 => 4 | 5 => 5 | 9 => 9 | n => n, fun | n => n⟩
theorem Tryd.lays125 : Go.Proofs.Lays.n125 Tryd.prog Tryd.lays125_ren := {
  mixed := by kernel_rfl
  f125 := Tryd.func50.trans (congrArg some (by kernel_rfl))
  f128 := Tryd.func65.trans (congrArg some (by kernel_rfl))
  f129 := Tryd.func66.trans (congrArg some (by kernel_rfl))
  t3 := Tryd.underlying3
  a3 := Tryd.isAgg3
  z3 := Tryd.sizeOf3
  v3 := Tryd.zeroValue3
  t4 := Tryd.underlying4
  a4 := Tryd.isAgg4
  z4 := Tryd.sizeOf4
  v4 := Tryd.zeroValue4
  t5 := Tryd.underlying5
  a5 := Tryd.isAgg5
  z5 := Tryd.sizeOf5
  v5 := Tryd.zeroValue5
  t9 := Tryd.underlying9
  a9 := Tryd.isAgg9
  z9 := Tryd.sizeOf9
  v9 := Tryd.zeroValue9
  t46 := Tryd.underlying83
  a46 := Tryd.isAgg83
  z46 := Tryd.sizeOf83
  v46 := Tryd.zeroValue83
  t51 := Tryd.underlying113
  a51 := Tryd.isAgg113
  z51 := Tryd.sizeOf113
  v51 := Tryd.zeroValue113
  t53 := Tryd.underlying34
  a53 := Tryd.isAgg34
  z53 := Tryd.sizeOf34
  v53 := Tryd.zeroValue34 }
theorem Tryd.bits_Len (x : Int) (w : World) (h0 : 0 ≤ x) (h1 : x ≤ 18446744073709551615) :
    Calls Tryd.prog 50 #[.int .u64 x] w fun e w' => e = .returned (.int .i64 (Lib.bitLen x.toNat)) ∧ w' = w := Any.bits_Len Tryd.lays125 x w h0 h1
def Tryd.lays134_ren : Go.Shelf.Ren := ⟨fun | 134 => 67 | 129 => 66 | n => n, fun | 53 => 34 | 3 => 3 | 4 => 4 | 46 => 83 | 5 => 5 | 9 => 9 | n => n, fun | n => n⟩
theorem Tryd.lays134 : Go.Proofs.Lays.n134 Tryd.prog Tryd.lays134_ren := {
  mixed := by kernel_rfl
  f129 := Tryd.func66.trans (congrArg some (by kernel_rfl))
  f134 := Tryd.func67.trans (congrArg some (by kernel_rfl))
  t3 := Tryd.underlying3
  a3 := Tryd.isAgg3
  z3 := Tryd.sizeOf3
  v3 := Tryd.zeroValue3
  t4 := Tryd.underlying4
  a4 := Tryd.isAgg4
  z4 := Tryd.sizeOf4
  v4 := Tryd.zeroValue4
  t5 := Tryd.underlying5
  a5 := Tryd.isAgg5
  z5 := Tryd.sizeOf5
  v5 := Tryd.zeroValue5
  t9 := Tryd.underlying9
  a9 := Tryd.isAgg9
  z9 := Tryd.sizeOf9
  v9 := Tryd.zeroValue9
  t46 := Tryd.underlying83
  a46 := Tryd.isAgg83
  z46 := Tryd.sizeOf83
  v46 := Tryd.zeroValue83
  t53 := Tryd.underlying34
  a53 := Tryd.isAgg34
  z53 := Tryd.sizeOf34
  v53 := Tryd.zeroValue34 }
theorem Tryd.bits_LeadingZeros64 (x : Int) (w : World) (h0 : 0 ≤ x) (h1 : x ≤ 18446744073709551615) :
    Calls Tryd.prog 67 #[.int .u64 x] w fun e w' => e = .returned (.int .i64 (64 - (Lib.bitLen x.toNat : Int))) ∧ w' = w := Any.bits_LeadingZeros64 Tryd.lays134 x w h0 h1
def Tryd.lays129_ren : Go.Shelf.Ren := ⟨fun | 129 => 66 | n => n, fun | 53 => 34 | 3 => 3 | 4 => 4 | 46 => 83 | 5 => 5 | 9 => 9 | n => n, fun | n => n⟩
theorem Tryd.lays129 : Go.Proofs.Lays.n129 Tryd.prog Tryd.lays129_ren := {
  mixed := by kernel_rfl
  f129 := Tryd.func66.trans (congrArg some (by kernel_rfl))
  t3 := Tryd.underlying3
  a3 := Tryd.isAgg3
  z3 := Tryd.sizeOf3
  v3 := Tryd.zeroValue3
  t4 := Tryd.underlying4
  a4 := Tryd.isAgg4
  z4 := Tryd.sizeOf4
  v4 := Tryd.zeroValue4
  t5 := Tryd.underlying5
  a5 := Tryd.isAgg5
  z5 := Tryd.sizeOf5
  v5 := Tryd.zeroValue5
  t9 := Tryd.underlying9
  a9 := Tryd.isAgg9
  z9 := Tryd.sizeOf9
  v9 := Tryd.zeroValue9
  t46 := Tryd.underlying83
  a46 := Tryd.isAgg83
  z46 := Tryd.sizeOf83
  v46 := Tryd.zeroValue83
  t53 := Tryd.underlying34
  a53 := Tryd.isAgg34
  z53 := Tryd.sizeOf34
  v53 := Tryd.zeroValue34 }
theorem Tryd.bits_Len64 (x : Int) (w : World) (h0 : 0 ≤ x) (h1 : x ≤ 18446744073709551615) :
    Calls Tryd.prog 66 #[.int .u64 x] w fun e w' => e = .returned (.int .i64 (Lib.bitLen x.toNat)) ∧ w' = w := Any.bits_Len64 Tryd.lays129 x w h0 h1
def Tryd.lays264_ren : Go.Shelf.Ren := ⟨fun | 264 => 53 | n => n, fun | 53 => 34 | 46 => 83 | n => n, fun | n => n⟩
theorem Tryd.lays264 : Go.Proofs.Lays.n264 Tryd.prog Tryd.lays264_ren := {
  mixed := by kernel_rfl
  f264 := Tryd.func53.trans (congrArg some (by kernel_rfl))
  t46 := Tryd.underlying83
  a46 := Tryd.isAgg83
  z46 := Tryd.sizeOf83
  v46 := Tryd.zeroValue83
  t53 := Tryd.underlying34
  a53 := Tryd.isAgg34
  z53 := Tryd.sizeOf34
  v53 := Tryd.zeroValue34 }
open Go.RowKit Go.Lib in
theorem Tryd.bits_Mul64 (x y : Nat) (hx : x < 18446744073709551616) (hy : y < 18446744073709551616) (w : World) :
    Calls Tryd.prog 53 #[.int .u64 x, .int .u64 y] w fun e w' => e = .returned (.tuple #[.int .u64 ((x * y / 18446744073709551616 : Nat) : Int), .int .u64 ((x * y % 18446744073709551616 : Nat) : Int)]) ∧ w' = w := Any.bits_Mul64 Tryd.lays264 x y hx hy w
end Go.Proofs

namespace Ob

abbrev B32 : Nat := 4294967296
abbrev B64 : Nat := 18446744073709551616

/-- The true digit is below B. -/
theorem dig_lt (u v d : Nat) (hu : u < v) (hd : d < B32) : (u * B32 + d) / v < B32 := by
  have hv : 0 < v := by omega
  rw [Nat.div_lt_iff_lt_mul hv]
  have : (u + 1) * B32 ≤ v * B32 := Nat.mul_le_mul_right _ hu
  have e : (u + 1) * B32 = u * B32 + B32 := Nat.succ_mul u B32
  rw [Nat.mul_comm B32 v]
  omega

/-- The first guess is at least the digit. -/
theorem dig_le_first (u v1 v0 d : Nat) (hv1 : 0 < v1) (hd : d < B32) : (u * B32 + d) / (v1 * B32 + v0) ≤ u / v1 := by
  rw [Nat.le_div_iff_mul_le hv1]
  have h1 := Nat.div_mul_le_self (u * B32 + d) (v1 * B32 + v0)
  generalize (u * B32 + d) / (v1 * B32 + v0) = q at h1 ⊢
  have e : q * (v1 * B32 + v0) = (q * v1) * B32 + q * v0 := by rw [Nat.mul_add, Nat.mul_assoc]
  rw [e] at h1
  generalize q * v1 = t at h1 ⊢
  generalize q * v0 = z at h1
  simp only [B32] at h1 hd
  omega

/-- The first guess is at most two too great. -/
theorem first_le (u v1 v0 : Nat) (hu : u < v1 * B32 + v0) (hv0 : v0 < B32) (hv1 : 2147483648 ≤ v1) : u / v1 ≤ B32 + 1 := by
  have : u / v1 < B32 + 2 := by
    rw [Nat.div_lt_iff_lt_mul (by omega)]
    have e : (B32 + 2) * v1 = v1 * B32 + 2 * v1 := by rw [Nat.add_mul, Nat.mul_comm]
    rw [e]
    simp only [B32] at *
    omega
  omega

theorem dig_id (u v1 v0 d qh rh : Nat) (e : u = qh * v1 + rh) : qh * (v1 * B32 + v0) + (B32 * rh + d) = u * B32 + d + qh * v0 := by
  rw [e, Nat.mul_add, Nat.add_mul, ← Nat.mul_assoc]
  generalize qh * v1 = t
  generalize qh * v0 = z
  simp only [B32]
  omega

/-- What fits is at most the digit. -/
theorem dig_fits (u v1 v0 d qh rh : Nat) (hv1 : 0 < v1) (e : u = qh * v1 + rh) (h : qh * v0 ≤ B32 * rh + d) : qh ≤ (u * B32 + d) / (v1 * B32 + v0) := by
  rw [Nat.le_div_iff_mul_le (by simp only [B32]; omega)]
  have := dig_id u v1 v0 d qh rh e
  omega

/-- What does not fit is above the digit. -/
theorem dig_over (u v1 v0 d qh rh : Nat) (hv1 : 0 < v1) (e : u = qh * v1 + rh) (h : B32 * rh + d < qh * v0) : (u * B32 + d) / (v1 * B32 + v0) < qh := by
  rw [Nat.div_lt_iff_lt_mul (by simp only [B32]; omega)]
  have := dig_id u v1 v0 d qh rh e
  omega

/-- Behind the break it fits. -/
theorem dig_break (v0 d qh rh : Nat) (hq : qh ≤ B32) (hv0 : v0 < B32) (hr : B32 ≤ rh) : qh * v0 ≤ B32 * rh + d := by
  have h1 : qh * v0 ≤ B32 * B32 := Nat.mul_le_mul hq (by omega)
  have h2 : B32 * B32 ≤ B32 * rh := Nat.mul_le_mul_left _ hr
  omega

/-- The loop's relation over one digit. -/
def Dig (u v1 v0 d qh rh : Nat) : Prop := u = qh * v1 + rh ∧ (u * B32 + d) / (v1 * B32 + v0) ≤ qh ∧ qh ≤ B32 + 1 ∧ rh < B32

theorem Dig.first (u v1 v0 d : Nat) (hv1 : 2147483648 ≤ v1) (hv1' : v1 < B32) (hv0 : v0 < B32) (hd : d < B32) (hu : u < v1 * B32 + v0) : Dig u v1 v0 d (u / v1) (u - u / v1 * v1) := by
  have h1 := Nat.div_add_mod' u v1
  have h2 := Nat.mod_lt u (show 0 < v1 by omega)
  refine ⟨by omega, dig_le_first u v1 v0 d (by omega) hd, first_le u v1 v0 hu hv0 hv1, by omega⟩

theorem dig_lower {u v1 qh rh : Nat} (e : u = qh * v1 + rh) (h : 0 < qh) : u = (qh - 1) * v1 + (rh + v1) := by
  obtain ⟨k, rfl⟩ : ∃ k, qh = k + 1 := ⟨qh - 1, by omega⟩
  rw [Nat.succ_mul] at e
  simp only [Nat.add_sub_cancel]
  omega

theorem Dig.above {u v1 v0 d qh rh : Nat} (h : Dig u v1 v0 d qh rh) (hv1 : 2147483648 ≤ v1) (hd : d < B32) (hu : u < v1 * B32 + v0) (c : B32 ≤ qh ∨ B32 * rh + d < qh * v0) :
    (u * B32 + d) / (v1 * B32 + v0) < qh := by
  obtain ⟨e, h1, h2, h3⟩ := h
  rcases c with c | c
  · exact Nat.lt_of_lt_of_le (dig_lt u (v1 * B32 + v0) d hu hd) c
  · exact dig_over u v1 v0 d qh rh (by omega) e c

/-- One round that goes on. -/
theorem Dig.next {u v1 v0 d qh rh : Nat} (h : Dig u v1 v0 d qh rh) (hv1 : 2147483648 ≤ v1) (hd : d < B32) (hu : u < v1 * B32 + v0) (c : B32 ≤ qh ∨ B32 * rh + d < qh * v0) (hr : rh + v1 < B32) :
    Dig u v1 v0 d (qh - 1) (rh + v1) ∧ 0 < qh := by
  have lt := h.above hv1 hd hu c
  obtain ⟨e, h1, h2, h3⟩ := h
  have hp : 0 < qh := Nat.lt_of_le_of_lt (Nat.zero_le _) lt
  exact ⟨⟨dig_lower e hp, Nat.le_sub_one_of_lt lt, Nat.le_trans (Nat.sub_le _ _) h2, hr⟩, hp⟩

/-- One round that breaks off: it is the digit. -/
theorem Dig.broke {u v1 v0 d qh rh : Nat} (h : Dig u v1 v0 d qh rh) (hv1 : 2147483648 ≤ v1) (hv0 : v0 < B32) (hd : d < B32) (hu : u < v1 * B32 + v0) (c : B32 ≤ qh ∨ B32 * rh + d < qh * v0) (hr : B32 ≤ rh + v1) :
    qh - 1 = (u * B32 + d) / (v1 * B32 + v0) ∧ 0 < qh := by
  have lt := h.above hv1 hd hu c
  obtain ⟨e, h1, h2, h3⟩ := h
  have hp : 0 < qh := Nat.lt_of_le_of_lt (Nat.zero_le _) lt
  have := dig_fits u v1 v0 d (qh - 1) (rh + v1) (by omega) (dig_lower e hp) (dig_break v0 d (qh - 1) (rh + v1) (by omega) hv0 hr)
  exact ⟨Nat.le_antisymm this (Nat.le_sub_one_of_lt lt), hp⟩

/-- The loop's end by its test: it is the digit. -/
theorem Dig.done {u v1 v0 d qh rh : Nat} (h : Dig u v1 v0 d qh rh) (hv1 : 2147483648 ≤ v1) (c : qh * v0 ≤ B32 * rh + d) :
    qh = (u * B32 + d) / (v1 * B32 + v0) := by
  obtain ⟨e, h1, h2, h3⟩ := h
  exact Nat.le_antisymm (dig_fits u v1 v0 d qh rh (by omega) e c) h1

theorem two_digits_at (u v d1 d0 B : Nat) (hv : 0 < v) :
    (u * (B * B) + (d1 * B + d0)) / v = (u * B + d1) / v * B + ((u * B + d1) % v * B + d0) / v ∧
    (u * (B * B) + (d1 * B + d0)) % v = ((u * B + d1) % v * B + d0) % v := by
  have h1 := Nat.div_add_mod' (u * B + d1) v
  generalize (u * B + d1) / v = q1 at h1 ⊢
  generalize (u * B + d1) % v = r1 at h1 ⊢
  have e : u * (B * B) + (d1 * B + d0) = (r1 * B + d0) + v * (q1 * B) := by
    have e1 : (u * B + d1) * B = u * (B * B) + d1 * B := by rw [Nat.add_mul, Nat.mul_assoc]
    have e2 : (q1 * v + r1) * B = v * (q1 * B) + r1 * B := by rw [Nat.add_mul, Nat.mul_comm q1 v, Nat.mul_assoc]
    rw [← Nat.add_assoc, ← e1, ← h1, e2]
    omega
  rw [e, Nat.add_mul_div_left _ _ hv, Nat.add_mul_mod_self_left]
  exact ⟨Nat.add_comm _ _, rfl⟩

/-- Two digits, one behind the other. -/
theorem two_digits (u v d1 d0 : Nat) (hv : 0 < v) :
    (u * B64 + (d1 * B32 + d0)) / v = (u * B32 + d1) / v * B32 + ((u * B32 + d1) % v * B32 + d0) / v ∧
    (u * B64 + (d1 * B32 + d0)) % v = ((u * B32 + d1) % v * B32 + d0) % v :=
  two_digits_at u v d1 d0 B32 hv

/-- Shifted by s (K is 2^s, L is 2^(64-s)): the upper word and the lower one. -/
theorem shifted (hi lo K L : Nat) (hKL : K * L = B64) : (hi * K + lo / L) * B64 + lo * K % B64 = (hi * B64 + lo) * K := by
  have hL : 0 < L := by
    rcases Nat.eq_zero_or_pos L with h | h
    · subst h; simp [B64] at hKL
    · exact h
  have hK : 0 < K := by
    rcases Nat.eq_zero_or_pos K with h | h
    · subst h; simp [B64] at hKL
    · exact h
  have h1 := Nat.div_add_mod' lo L
  have h2 := Nat.mod_lt lo hL
  generalize lo / L = a at *
  generalize lo % L = b at *
  have h3 : lo * K = a * B64 + b * K := by
    rw [← h1, Nat.add_mul, Nat.mul_assoc, Nat.mul_comm L K, hKL]
  have h4 : b * K < B64 := by
    rw [← hKL, Nat.mul_comm K L]
    exact Nat.mul_lt_mul_of_pos_right h2 hK
  have h5 : lo * K % B64 = b * K := by
    rw [h3, Nat.mul_comm a B64, Nat.mul_add_mod, Nat.mod_eq_of_lt h4]
  rw [h5, Nat.add_mul, Nat.add_mul, h3, Nat.mul_right_comm]
  omega

theorem shifted_div (N y K : Nat) (hK : 0 < K) : N * K / (y * K) = N / y ∧ N * K % (y * K) / K = N % y := by
  refine ⟨Nat.mul_div_mul_right N y hK, ?_⟩
  rw [Nat.mul_mod_mul_right, Nat.mul_div_cancel _ hK]

/-- The whole of it: out of the two digits of the shifted numbers. -/
theorem div64_whole (hi lo y K L : Nat) (hKL : K * L = B64) (hy : 0 < y)
    (u d1 d0 q1 r1 q0 : Nat) (hu : u = hi * K + lo / L) (hd : d1 * B32 + d0 = lo * K % B64)
    (h1 : q1 = (u * B32 + d1) / (y * K)) (hr1 : r1 = (u * B32 + d1) % (y * K)) (h0 : q0 = (r1 * B32 + d0) / (y * K)) :
    q1 * B32 + q0 = (hi * B64 + lo) / y ∧ (r1 * B32 + d0) % (y * K) / K = (hi * B64 + lo) % y := by
  have hK : 0 < K := by
    rcases Nat.eq_zero_or_pos K with h | h
    · subst h; simp [B64] at hKL
    · exact h
  have hv : 0 < y * K := Nat.mul_pos hy hK
  have t := two_digits u (y * K) d1 d0 hv
  rw [hd, hu, shifted hi lo K L hKL, ← hu, ← h1, ← hr1, ← h0] at t
  have s := shifted_div (hi * B64 + lo) y K hK
  exact ⟨by rw [← t.1, s.1], by rw [← t.2, s.2]⟩

end Ob

namespace Go.Proofs.YtckjojmphdoghaaDoor
open Go.RowKit Go.Proofs
set_option linter.unusedVariables false

theorem wrapNat (a : Nat) (h : a < 18446744073709551616) : IntKind.u64.wrap (a : Int) = (a : Int) := by rw [IntKind.wrap_u64]; omega

theorem wrapNatDiv (a b : Nat) (h : a < 18446744073709551616) : IntKind.u64.wrap ((a : Int) / (b : Int)) = ((a / b : Nat) : Int) := by
  rw [← Int.natCast_ediv]
  exact wrapNat _ (Nat.lt_of_le_of_lt (Nat.div_le_self _ _) h)

set_option maxHeartbeats 400000 in
theorem div64_low (lo y : Nat) (w : World) (hl : lo < 18446744073709551616) (hy : y < 18446744073709551616) (h0 : 0 < y) :
    Calls Tryd.prog 54 #[.int .u64 0, .int .u64 lo, .int .u64 y] w fun e w' => e = .returned (.tuple #[.int .u64 ((lo / y : Nat) : Int), .int .u64 ((lo % y : Nat) : Int)]) ∧ ∃ n, w' = w.drewN n := by
  go_enter Tryd.func54, Tryd.ntmps54
  go_wp2
  go_quiet (fail)
  go_wp2
  go_ret2
  exact ⟨by rw [wrapNatDiv lo y hl]; simp, _, rfl⟩

theorem val_int {k : IntKind} {a b : Int} (h : a = b) : Value.int k a = .int k b := by rw [h]

theorem mul_small (a b : Nat) (ha : a < 4294967296) (hb : b < 4294967296) : ∃ z : Nat, Hid (z = a * b) ∧ IntKind.u64.wrap ((a : Int) * (b : Int)) = (z : Int) := by
  refine ⟨a * b, rfl, ?_⟩
  rw [← Int.natCast_mul]
  refine wrapNat _ ?_
  have : a * b ≤ 4294967295 * 4294967295 := Nat.mul_le_mul (by omega) (by omega)
  omega

theorem dig_broke {u v1 v0 d qh rh q : Nat} (h : Ob.Dig u v1 v0 d qh rh) (hv1 : 2147483648 ≤ v1) (hv0 : v0 < 4294967296) (hd : d < 4294967296) (hu : u < v1 * Ob.B32 + v0) (c : Ob.B32 ≤ qh ∨ Ob.B32 * rh + d < qh * v0) (hr : (4294967296 : Int) ≤ (rh : Int) + (v1 : Int))
    (hq : q = (u * Ob.B32 + d) / (v1 * Ob.B32 + v0)) : Hid ((qh : Int) - 1 = (q : Int)) := by
  have := h.broke hv1 hv0 hd hu c (by simp only [Ob.B32]; omega)
  rw [← hq] at this
  show (qh : Int) - 1 = (q : Int)
  omega

set_option maxRecDepth 4000 in
set_option maxHeartbeats 1000000 in
theorem div64_core (hi lo y s u v v1 v0 t d1 d0 : Nat) (w : World) (hl : lo < 18446744073709551616) (hy : y < 18446744073709551616) (h0 : 0 < hi) (h1 : hi < y)
    (hs : s < 64)
    (hlz : ∀ w, Calls Tryd.prog 67 #[.int .u64 y] w fun e w' => e = .returned (.int .i64 s) ∧ w = w')
    (e1 : IntKind.u64.wrap ((y : Int) * 2 ^ s) = (v : Int)) (e2 : (v : Int) / 4294967296 = (v1 : Int)) (e3 : bits .and .u64 (v : Int) 4294967295 = (v0 : Int))
    (e4 : bits .or .u64 (IntKind.u64.wrap ((hi : Int) * 2 ^ s)) ((lo : Int) / 2 ^ (64 - s)) = (u : Int))
    (e5 : IntKind.u64.wrap ((lo : Int) * 2 ^ s) = (t : Int)) (e6 : (t : Int) / 4294967296 = (d1 : Int)) (e7 : bits .and .u64 (t : Int) 4294967295 = (d0 : Int))
    (hv1 : 2147483648 ≤ v1) (hv1' : v1 < 4294967296) (hv0 : v0 < 4294967296) (hd1 : d1 < 4294967296) (hd0 : d0 < 4294967296)
    (hu : u < 18446744073709551616)
    (huv : Hid (u < v1 * Ob.B32 + v0))
    (qf rf : Nat) (hqf : qf ≤ 4294967297) (hrf : rf < 4294967296) (f1 : (u : Int) / (v1 : Int) = (qf : Int)) (f2 : IntKind.u64.wrap ((u : Int) - IntKind.u64.wrap ((qf : Int) * (v1 : Int))) = rf) (hfirst : Hid (Ob.Dig u v1 v0 d1 qf rf))
    (q1 r1 : Nat) (hq1 : Hid (q1 = (u * Ob.B32 + d1) / (v1 * Ob.B32 + v0))) (hr1 : r1 < 18446744073709551616) (huv2 : Hid (r1 < v1 * Ob.B32 + v0))
    (g1 : IntKind.u64.wrap (IntKind.u64.wrap (IntKind.u64.wrap ((u : Int) * 4294967296) + (d1 : Int)) - IntKind.u64.wrap ((q1 : Int) * (v : Int))) = (r1 : Int))
    (qg rg : Nat) (hqg : qg ≤ 4294967297) (hrg : rg < 4294967296) (g2 : (r1 : Int) / (v1 : Int) = (qg : Int)) (g3 : IntKind.u64.wrap ((r1 : Int) - IntKind.u64.wrap ((qg : Int) * (v1 : Int))) = rg) (hfirst2 : Hid (Ob.Dig r1 v1 v0 d0 qg rg))
    (q0 r0 : Nat) (hq0 : Hid (q0 = (r1 * Ob.B32 + d0) / (v1 * Ob.B32 + v0))) (hr0 : r0 < 18446744073709551616)
    (Q R : Nat) (k1 : IntKind.u64.wrap (IntKind.u64.wrap ((q1 : Int) * 4294967296) + (q0 : Int)) = (Q : Int))
    (k2 : IntKind.u64.wrap (IntKind.u64.wrap (IntKind.u64.wrap ((r1 : Int) * 4294967296) + (d0 : Int)) - IntKind.u64.wrap ((q0 : Int) * (v : Int))) = (r0 : Int))
    (k3 : (r0 : Int) / 2 ^ s = (R : Int)) :
    Calls Tryd.prog 54 #[.int .u64 hi, .int .u64 lo, .int .u64 y] w fun e w' => e = .returned (.tuple #[.int .u64 Q, .int .u64 R]) ∧ w' = w := by
  go_enter Tryd.func54, Tryd.ntmps54
  go_upto_block 0 with (go_at_call 67; refine (hlz _).mono ?_; rintro e w' ⟨rfl, rfl⟩)
  clear hlz e1 e2 e3 e4 e5 e6 e7 f1 f2
  go_cut [15, 16] (fun q _ w1 => q = .int .u64 q1 ∧ w1 = w)
  case first =>
    go_wp2
    go_loop [15, 16] (fun q r => ∃ qh rh : Nat, qh ≤ 4294967297 ∧ rh < 4294967296 ∧ q = .int .u64 qh ∧ r = .int .u64 rh ∧ Hid (Ob.Dig u v1 v0 d1 qh rh)) (fun q _ => (intOf q).toNat)
    case atStart => exact ⟨qf, rf, hqf, hrf, rfl, rfl, hfirst⟩
    case round =>
      clear g1 g2 g3 k1 k2 k3 hr1 hr0 hfirst hfirst2 hqf hrf hqg hrg hl hy hu hq0 huv2
      obtain ⟨qh, rh, hqh, hrh, rfl, rfl, hD⟩ := hrel
      by_cases c1 : 4294967296 ≤ qh
      · have c1i : ¬ ((qh : Int) < 4294967296) := by omega
        have c1j : (4294967296 : Int) ≤ (qh : Int) := by omega
        by_cases c3 : (4294967296 : Int) ≤ (rh : Int) + (v1 : Int)
        · have c3i : ¬ ((rh : Int) + (v1 : Int) < 4294967296) := by omega
          have hb : Hid ((qh : Int) - 1 = (q1 : Int)) := dig_broke hD.out hv1 hv0 hd1 huv.out (Or.inl c1) (by omega) hq1.out
          clear c1
          go_wp2
          go_meet
          case rel => exact ⟨val_int hb.out, rfl⟩
        · have c3i : (rh : Int) + (v1 : Int) < 4294967296 := by omega
          have hb := hD.out.next hv1 hd1 huv.out (Or.inl c1) (by simp only [Ob.B32]; omega)
          have hN : Hid (Ob.Dig u v1 v0 d1 (qh - 1) (rh + v1)) := hb.1
          clear c1 hb
          go_wp2
          go_round
          case rel => exact ⟨qh - 1, rh + v1, by omega, by omega, by go_num, by go_num, hN⟩
          case measure => simp [intOf]; omega
      · have c1i : (qh : Int) < 4294967296 := by omega
        have c1j : ¬ ((4294967296 : Int) ≤ (qh : Int)) := by omega
        obtain ⟨z, hz, hm⟩ := mul_small qh v0 (by omega) hv0
        by_cases c2 : 4294967296 * (rh : Int) + (d1 : Int) < (z : Int)
        · have c2' : Ob.B32 ≤ qh ∨ Ob.B32 * rh + d1 < qh * v0 := Or.inr (by have := hz.out; simp only [Ob.B32]; omega)
          by_cases c3 : (4294967296 : Int) ≤ (rh : Int) + (v1 : Int)
          · have c3i : ¬ ((rh : Int) + (v1 : Int) < 4294967296) := by omega
            have hb : Hid ((qh : Int) - 1 = (q1 : Int)) := dig_broke hD.out hv1 hv0 hd1 huv.out c2' (by omega) hq1.out
            have hp : 0 < qh := (hD.out.broke hv1 hv0 hd1 huv.out c2' (by simp only [Ob.B32]; omega)).2
            clear c1 c2'
            go_wp2
            go_meet
            case rel => exact ⟨val_int hb.out, rfl⟩
          · have c3i : (rh : Int) + (v1 : Int) < 4294967296 := by omega
            have hb := hD.out.next hv1 hd1 huv.out c2' (by simp only [Ob.B32]; omega)
            have hN : Hid (Ob.Dig u v1 v0 d1 (qh - 1) (rh + v1)) := hb.1
            have hp : 0 < qh := hb.2
            clear c1 c2' hb
            go_wp2
            go_round
            case rel => exact ⟨qh - 1, rh + v1, by omega, by omega, by go_num, by go_num, hN⟩
            case measure => simp [intOf]; omega
        · have hb : Hid ((qh : Int) = (q1 : Int)) := by
            have := hD.out.done hv1 (by have := hz.out; simp only [Ob.B32]; omega)
            rw [← hq1.out] at this
            exact congrArg Int.ofNat this
          clear c1
          go_wp2
          go_meet
          case rel => exact ⟨val_int hb.out, rfl⟩
  case rest =>
    obtain ⟨rfl, rfl⟩ := hcut
    clear hfirst hqf hrf
    go_upto_block 2 with fail
    clear g1 g2 g3
    go_cut [18, 16] (fun q _ w1 => q = .int .u64 q0 ∧ w1 = wc)
    case first =>
      go_wp2
      go_loop [18, 16] (fun q r => ∃ qh rh : Nat, qh ≤ 4294967297 ∧ rh < 4294967296 ∧ q = .int .u64 qh ∧ r = .int .u64 rh ∧ Hid (Ob.Dig r1 v1 v0 d0 qh rh)) (fun q _ => (intOf q).toNat)
      case atStart => exact ⟨qg, rg, hqg, hrg, rfl, rfl, hfirst2⟩
      case round =>
        clear k1 k2 k3 hr0 hfirst2 hqg hrg hl hy hu hq1 huv hr1
        obtain ⟨qh, rh, hqh, hrh, rfl, rfl, hD⟩ := hrel
        by_cases c1 : 4294967296 ≤ qh
        · have c1i : ¬ ((qh : Int) < 4294967296) := by omega
          have c1j : (4294967296 : Int) ≤ (qh : Int) := by omega
          by_cases c3 : (4294967296 : Int) ≤ (rh : Int) + (v1 : Int)
          · have c3i : ¬ ((rh : Int) + (v1 : Int) < 4294967296) := by omega
            have hb : Hid ((qh : Int) - 1 = (q0 : Int)) := dig_broke hD.out hv1 hv0 hd0 huv2.out (Or.inl c1) (by omega) hq0.out
            clear c1
            go_wp2
            go_meet
            case rel => exact ⟨val_int hb.out, rfl⟩
          · have c3i : (rh : Int) + (v1 : Int) < 4294967296 := by omega
            have hb := hD.out.next hv1 hd0 huv2.out (Or.inl c1) (by simp only [Ob.B32]; omega)
            have hN : Hid (Ob.Dig r1 v1 v0 d0 (qh - 1) (rh + v1)) := hb.1
            clear c1 hb
            go_wp2
            go_round
            case rel => exact ⟨qh - 1, rh + v1, by omega, by omega, by go_num, by go_num, hN⟩
            case measure => simp [intOf]; omega
        · have c1i : (qh : Int) < 4294967296 := by omega
          have c1j : ¬ ((4294967296 : Int) ≤ (qh : Int)) := by omega
          obtain ⟨z, hz, hm⟩ := mul_small qh v0 (by omega) hv0
          by_cases c2 : 4294967296 * (rh : Int) + (d0 : Int) < (z : Int)
          · have c2' : Ob.B32 ≤ qh ∨ Ob.B32 * rh + d0 < qh * v0 := Or.inr (by have := hz.out; simp only [Ob.B32]; omega)
            by_cases c3 : (4294967296 : Int) ≤ (rh : Int) + (v1 : Int)
            · have c3i : ¬ ((rh : Int) + (v1 : Int) < 4294967296) := by omega
              have hb : Hid ((qh : Int) - 1 = (q0 : Int)) := dig_broke hD.out hv1 hv0 hd0 huv2.out c2' (by omega) hq0.out
              have hp : 0 < qh := (hD.out.broke hv1 hv0 hd0 huv2.out c2' (by simp only [Ob.B32]; omega)).2
              clear c1 c2'
              go_wp2
              go_meet
              case rel => exact ⟨val_int hb.out, rfl⟩
            · have c3i : (rh : Int) + (v1 : Int) < 4294967296 := by omega
              have hb := hD.out.next hv1 hd0 huv2.out c2' (by simp only [Ob.B32]; omega)
              have hN : Hid (Ob.Dig r1 v1 v0 d0 (qh - 1) (rh + v1)) := hb.1
              have hp : 0 < qh := hb.2
              clear c1 c2' hb
              go_wp2
              go_round
              case rel => exact ⟨qh - 1, rh + v1, by omega, by omega, by go_num, by go_num, hN⟩
              case measure => simp [intOf]; omega
          · have hb : Hid ((qh : Int) = (q0 : Int)) := by
              have := hD.out.done hv1 (by have := hz.out; simp only [Ob.B32]; omega)
              rw [← hq0.out] at this
              exact congrArg Int.ofNat this
            clear c1
            go_wp2
            go_meet
            case rel => exact ⟨val_int hb.out, rfl⟩
    case rest =>
      obtain ⟨rfl, rfl⟩ := hcut
      go_wp2
      go_ret2
      exact ⟨rfl, rfl⟩

theorem bitLenAux_bounds : ∀ (f x : Nat), x < 2 ^ f → x ≠ 0 → 1 ≤ Lib.bitLenAux f x ∧ Lib.bitLenAux f x ≤ f ∧ 2 ^ (Lib.bitLenAux f x - 1) ≤ x ∧ x < 2 ^ Lib.bitLenAux f x
  | 0, x, hx, h0 => by simp at hx; exact absurd hx h0
  | f + 1, x, hx, h0 => by
    simp only [Lib.bitLenAux, if_neg h0]
    by_cases h1 : x / 2 = 0
    · have e : Lib.bitLenAux f (x / 2) = 0 := by rw [h1]; cases f <;> simp [Lib.bitLenAux]
      rw [e]
      have : x = 1 := by omega
      subst this
      simp
    · have ih := bitLenAux_bounds f (x / 2) (by rw [Nat.pow_succ] at hx; omega) h1
      generalize Lib.bitLenAux f (x / 2) = b at ih ⊢
      obtain ⟨c, rfl⟩ : ∃ c, b = c + 1 := ⟨b - 1, by omega⟩
      have e1 : 2 ^ (1 + (c + 1) - 1) = 2 ^ c * 2 := by rw [← Nat.pow_succ]; congr 1; omega
      have e2 : 2 ^ (1 + (c + 1)) = 2 ^ (c + 1) * 2 := by rw [← Nat.pow_succ]; congr 1; omega
      rw [e1, e2]
      simp only [Nat.add_sub_cancel] at ih
      omega

/-- How far y is shifted, and that it then has its highest bit. -/
theorem shift_of (y : Nat) (hy : y < 18446744073709551616) (h0 : 0 < y) : ∃ s K L : Nat, s < 64 ∧ K = 2 ^ s ∧ L = 2 ^ (64 - s) ∧ K * L = Ob.B64 ∧ 9223372036854775808 ≤ y * K ∧ y * K < Ob.B64 ∧
    (64 : Int) - (Lib.bitLen y : Int) = (s : Int) := by
  obtain ⟨b1, b2, b3, b4⟩ := bitLenAux_bounds 64 y hy (by omega)
  change 1 ≤ Lib.bitLen y at b1
  change Lib.bitLen y ≤ 64 at b2
  change 2 ^ (Lib.bitLen y - 1) ≤ y at b3
  change y < 2 ^ Lib.bitLen y at b4
  generalize Lib.bitLen y = b at b1 b2 b3 b4 ⊢
  have hpos : 0 < 2 ^ (64 - b) := Nat.two_pow_pos _
  refine ⟨64 - b, 2 ^ (64 - b), 2 ^ (64 - (64 - b)), by omega, rfl, rfl, ?_, ?_, ?_, by omega⟩
  · rw [← Nat.pow_add]
    have : 64 - b + (64 - (64 - b)) = 64 := by omega
    rw [this]
  · have h := Nat.mul_le_mul_right (2 ^ (64 - b)) b3
    rw [← Nat.pow_add] at h
    have e : b - 1 + (64 - b) = 63 := by omega
    rw [e] at h
    exact h
  · have h := Nat.mul_lt_mul_of_pos_right b4 hpos
    rw [← Nat.pow_add] at h
    have e : b + (64 - b) = 64 := by omega
    rw [e] at h
    exact h

theorem mask32 (a : Nat) (ha : a < 18446744073709551616) : bits .and .u64 (a : Int) 4294967295 = ((a % 4294967296 : Nat) : Int) := by
  have h := bits_and_u64_nat a 4294967295 ha (by omega)
  have e : a &&& 4294967295 = a % 4294967296 := Nat.and_two_pow_sub_one_eq_mod a 32
  rw [e] at h
  exact h

theorem wrapMod (a : Nat) : IntKind.u64.wrap (a : Int) = ((a % 18446744073709551616 : Nat) : Int) := by rw [IntKind.wrap_u64]; omega

/-- A difference that is reckoned with wraps, and that is at least 0 and small. -/
theorem wrap_rest (u d q v r : Nat) (hr : r < 18446744073709551616) (h : u * 4294967296 + d = q * v + r) :
    IntKind.u64.wrap (IntKind.u64.wrap (IntKind.u64.wrap ((u : Int) * 4294967296) + (d : Int)) - IntKind.u64.wrap ((q : Int) * (v : Int))) = (r : Int) := by
  have e1 : (u : Int) * 4294967296 = ((u * 4294967296 : Nat) : Int) := by simp
  rw [e1, ← Int.natCast_mul]
  generalize q * v = z at h ⊢
  generalize u * 4294967296 = x at h ⊢
  simp only [IntKind.wrap_u64]
  omega

theorem first_rest (u v1 : Nat) (hu : u < 18446744073709551616) : IntKind.u64.wrap ((u : Int) - IntKind.u64.wrap (((u / v1 : Nat) : Int) * (v1 : Int))) = ((u - u / v1 * v1 : Nat) : Int) := by
  have h := Nat.div_mul_le_self u v1
  rw [← Int.natCast_mul]
  generalize u / v1 * v1 = z at h ⊢
  simp only [IntKind.wrap_u64]
  omega

theorem div64_high (hi lo y : Nat) (w : World) (hl : lo < 18446744073709551616) (hy : y < 18446744073709551616) (h0 : 0 < hi) (h1 : hi < y) :
    Calls Tryd.prog 54 #[.int .u64 hi, .int .u64 lo, .int .u64 y] w fun e w' => e = .returned (.tuple #[.int .u64 (((hi * Ob.B64 + lo) / y : Nat) : Int), .int .u64 (((hi * Ob.B64 + lo) % y : Nat) : Int)]) ∧ w' = w := by
  obtain ⟨s, K, L, hs, hK, hL, hKL, hlo, hhi, hb⟩ := shift_of y hy (by omega)
  have hKp : 0 < K := by rw [hK]; exact Nat.two_pow_pos _
  have hLp : 0 < L := by rw [hL]; exact Nat.two_pow_pos _
  have hKi : (2 : Int) ^ s = (K : Int) := by rw [hK]; exact (Int.natCast_pow 2 s).symm
  have hLi : (2 : Int) ^ (64 - s) = (L : Int) := by rw [hL]; exact (Int.natCast_pow 2 (64 - s)).symm
  -- the shifted divisor, and its two digits
  obtain ⟨v, hv⟩ : ∃ v, v = y * K := ⟨_, rfl⟩
  obtain ⟨u, hu⟩ : ∃ u, u = hi * K + lo / L := ⟨_, rfl⟩
  obtain ⟨t, ht⟩ : ∃ t, t = lo * K % Ob.B64 := ⟨_, rfl⟩
  have hvd : v / Ob.B32 * Ob.B32 + v % Ob.B32 = v := Nat.div_add_mod' v Ob.B32
  have htd : t / Ob.B32 * Ob.B32 + t % Ob.B32 = t := Nat.div_add_mod' t Ob.B32
  have hvlt : v < 18446744073709551616 := by rw [hv]; exact hhi
  have htlt : t < 18446744073709551616 := by rw [ht]; exact Nat.mod_lt _ (by decide)
  have hloL : lo / L < K := by
    rw [Nat.div_lt_iff_lt_mul hLp, hKL]
    exact hl
  have huv : u < v := by
    have h2 : (hi + 1) * K ≤ y * K := Nat.mul_le_mul_right _ h1
    rw [Nat.succ_mul] at h2
    omega
  have hhiK : hi * K < 18446744073709551616 := by
    have h2 : hi * K ≤ u := by rw [hu]; exact Nat.le_add_right _ _
    omega
  have hv1 : 2147483648 ≤ v / Ob.B32 := by simp only [Ob.B32]; omega
  have hv1' : v / Ob.B32 < 4294967296 := by simp only [Ob.B32]; omega
  have huv' : u < v / Ob.B32 * Ob.B32 + v % Ob.B32 := by omega
  have hv0 : v % Ob.B32 < 4294967296 := Nat.mod_lt _ (by decide)
  have hd1 : t / Ob.B32 < 4294967296 := by simp only [Ob.B32]; omega
  have hd0 : t % Ob.B32 < 4294967296 := Nat.mod_lt _ (by decide)
  have e4 : bits .or .u64 (IntKind.u64.wrap ((hi : Int) * 2 ^ s)) ((lo : Int) / 2 ^ (64 - s)) = (u : Int) := by
    rw [hKi, hLi, ← Int.natCast_mul, wrapNat _ hhiK, ← Int.natCast_ediv, bits_or_u64_nat _ _ hhiK (by omega)]
    have := Nat.shiftLeft_add_eq_or_of_lt (b := lo / L) (i := s) (by rw [← hK]; exact hloL) hi
    rw [Nat.shiftLeft_eq, ← hK] at this
    rw [← this, hu]
  have first1 := Ob.Dig.first u (v / Ob.B32) (v % Ob.B32) (t / Ob.B32) hv1 hv1' hv0 hd1 huv'
  obtain ⟨r1, hr1⟩ : ∃ r1, r1 = (u * Ob.B32 + t / Ob.B32) % v := ⟨_, rfl⟩
  have hr1v : r1 < v := by rw [hr1]; exact Nat.mod_lt _ (by omega)
  have first2 := Ob.Dig.first r1 (v / Ob.B32) (v % Ob.B32) (t % Ob.B32) hv1 hv1' hv0 hd0 (by omega)
  obtain ⟨q1, hq1⟩ : ∃ q1, q1 = (u * Ob.B32 + t / Ob.B32) / v := ⟨_, rfl⟩
  obtain ⟨q0, hq0⟩ : ∃ q0, q0 = (r1 * Ob.B32 + t % Ob.B32) / v := ⟨_, rfl⟩
  obtain ⟨r0, hr0⟩ : ∃ r0, r0 = (r1 * Ob.B32 + t % Ob.B32) % v := ⟨_, rfl⟩
  have hr0v : r0 < v := by rw [hr0]; exact Nat.mod_lt _ (by omega)
  have a1 : u * 4294967296 + t / Ob.B32 = q1 * v + r1 := by rw [hq1, hr1]; exact (Nat.div_add_mod' _ _).symm
  have a0 : r1 * 4294967296 + t % Ob.B32 = q0 * v + r0 := by rw [hq0, hr0]; exact (Nat.div_add_mod' _ _).symm
  have hq1b : q1 < Ob.B32 := by rw [hq1]; exact Ob.dig_lt u v _ huv hd1
  have hq0b : q0 < Ob.B32 := by rw [hq0]; exact Ob.dig_lt r1 v _ hr1v hd0
  have whole := Ob.div64_whole hi lo y K L hKL (by omega) u (t / Ob.B32) (t % Ob.B32) q1 r1 q0 hu (htd.trans ht) (by rw [← hv]; exact hq1) (by rw [← hv]; exact hr1) (by rw [← hv]; exact hq0)
  rw [← hv, ← hr0] at whole
  have hlz : ∀ w, Calls Tryd.prog 67 #[.int .u64 y] w fun e w' => e = .returned (.int .i64 s) ∧ w = w' := fun w =>
    (Tryd.bits_LeadingZeros64 (y : Int) w (by omega) (by omega)).mono fun e w' ⟨he, hw⟩ => ⟨by rw [he, Int.toNat_natCast, hb], hw.symm⟩
  refine div64_core hi lo y s u v (v / Ob.B32) (v % Ob.B32) t (t / Ob.B32) (t % Ob.B32) w hl hy h0 h1 hs hlz
    (by rw [hKi, ← Int.natCast_mul, wrapNat _ hhi, hv]) (Int.natCast_ediv v 4294967296).symm (mask32 v hvlt) e4
    (by rw [hKi, ← Int.natCast_mul, wrapMod, ht]) (Int.natCast_ediv t 4294967296).symm (mask32 t htlt)
    hv1 hv1' hv0 hd1 hd0 (by omega) huv' (u / (v / Ob.B32)) (u - u / (v / Ob.B32) * (v / Ob.B32)) (first1.2.2.1) (first1.2.2.2) (Int.natCast_ediv u _).symm (first_rest u _ (by omega)) first1
    q1 r1 (by rw [hvd]; exact hq1) (by omega) (by show r1 < _; omega) (wrap_rest u _ q1 v r1 (by omega) a1)
    (r1 / (v / Ob.B32)) (r1 - r1 / (v / Ob.B32) * (v / Ob.B32)) (first2.2.2.1) (first2.2.2.2) (Int.natCast_ediv r1 _).symm (first_rest r1 _ (by omega)) first2
    q0 r0 (by rw [hvd]; exact hq0) (by omega) _ _ ?_ (wrap_rest r1 _ q0 v r0 (by omega) a0) ?_
  · rw [← whole.1]
    simp only [IntKind.wrap_u64, Ob.B32] at *
    omega
  · rw [← whole.2, hKi]
    exact (Int.natCast_ediv r0 K).symm

/-- math/bits.Div64 at a divisor above the upper word: the quotient and the remainder. -/
theorem div64_any (hi lo y : Nat) (w : World) (hl : lo < 18446744073709551616) (hy : y < 18446744073709551616) (h1 : hi < y) :
    Calls Tryd.prog 54 #[.int .u64 hi, .int .u64 lo, .int .u64 y] w fun e w' => e = .returned (.tuple #[.int .u64 (((hi * Ob.B64 + lo) / y : Nat) : Int), .int .u64 (((hi * Ob.B64 + lo) % y : Nat) : Int)]) ∧ ∃ n, w' = w.drewN n := by
  by_cases h0 : hi = 0
  · subst h0
    have e : 0 * Ob.B64 + lo = lo := by rw [Nat.zero_mul, Nat.zero_add]
    rw [e]
    exact div64_low lo y w hl hy h1
  · exact (div64_high hi lo y w hl hy (by omega) h1).mono fun e w' ⟨he, hw⟩ => ⟨he, 0, hw⟩
end Go.Proofs.YtckjojmphdoghaaDoor

namespace Go.Proofs.YtckjojmphdoghaaDoor
open Go.RowKit Go.Proofs
set_option linter.unusedVariables false

theorem ret_int {k : IntKind} {a b : Int} (h : a = b) : Ending.returned (.int k a) = .returned (.int k b) := by rw [h]

theorem isModulus_yes (m : Nat) (w : World) (h1 : 2 ≤ m) (h2 : m ≤ 4611686018427387904) :
    Calls Tryd.prog 38 #[.int .u64 m] w fun e w' => e = .returned (.bool true) ∧ w = w' := by
  have i1 : (2 : Int) ≤ (m : Int) := by omega
  have i2 : (m : Int) ≤ 4611686018427387904 := by omega
  go_enter Tryd.func38, Tryd.ntmps38
  go_wp2
  go_ret
  exact ⟨rfl, rfl⟩

theorem isModulus_no (m : Nat) (w : World) (h : m < 2 ∨ 4611686018427387904 < m) :
    Calls Tryd.prog 38 #[.int .u64 m] w fun e w' => e = .returned (.bool false) ∧ w = w' := by
  rcases h with h | h
  · have i1 : ¬ (2 : Int) ≤ (m : Int) := by omega
    have i2 : (m : Int) < 2 := by omega
    go_enter Tryd.func38, Tryd.ntmps38
    go_wp2
    go_ret
    exact ⟨rfl, rfl⟩
  · have i1 : (2 : Int) ≤ (m : Int) := by omega
    have i2 : ¬ (m : Int) ≤ 4611686018427387904 := by omega
    have i3 : (4611686018427387904 : Int) < (m : Int) := by omega
    go_enter Tryd.func38, Tryd.ntmps38
    go_wp2
    go_ret
    exact ⟨rfl, rfl⟩

theorem rest_any (m a : Nat) (w : World) (hm : 0 < m) (ha : a < 18446744073709551616) :
    Calls Tryd.prog 40 #[.int .u64 m, .int .u64 a] w fun e w' => e = .returned (.int .u64 ((a % m : Nat) : Int)) ∧ w = w' := by
  by_cases h : a < m
  · have e : Hid (a % m = a) := Nat.mod_eq_of_lt h
    go_enter Tryd.func40, Tryd.ntmps40
    go_wp2
    go_ret
    exact ⟨ret_int (by rw [e.out]), rfl⟩
  · go_enter Tryd.func40, Tryd.ntmps40
    go_wp2
    go_ret
    exact ⟨ret_int (by simp), rfl⟩

theorem addRests_any (m a b : Nat) (w : World) (hm : m ≤ 4611686018427387904) (ha : a ≤ m) (hb : b ≤ m) (hab : a + b < 2 * m) :
    Calls Tryd.prog 52 #[.int .u64 m, .int .u64 a, .int .u64 b] w fun e w' => e = .returned (.int .u64 (((a + b) % m : Nat) : Int)) ∧ w = w' := by
  by_cases h : m ≤ a + b
  · have e : Hid ((a + b) % m = a + b - m) := by
      show (a + b) % m = a + b - m
      rw [Nat.mod_eq_sub_mod h, Nat.mod_eq_of_lt (by omega)]
    go_enter Tryd.func52, Tryd.ntmps52
    go_wp2
    go_ret
    exact ⟨ret_int (by rw [e.out]; omega), rfl⟩
  · have e : Hid ((a + b) % m = a + b) := Nat.mod_eq_of_lt (by omega)
    go_enter Tryd.func52, Tryd.ntmps52
    go_wp2
    go_ret
    exact ⟨ret_int (by rw [e.out]; omega), rfl⟩

theorem mulRests_core (m a b hi lo q r : Nat) (w : World)
    (hmul : ∀ w, Calls Tryd.prog 53 #[.int .u64 a, .int .u64 b] w fun e w' => e = .returned (.tuple #[.int .u64 hi, .int .u64 lo]) ∧ w = w')
    (hdiv : ∀ w, Calls Tryd.prog 54 #[.int .u64 hi, .int .u64 lo, .int .u64 m] w fun e w' => e = .returned (.tuple #[.int .u64 q, .int .u64 r]) ∧ ∃ n, w' = w.drewN n) :
    Calls Tryd.prog 39 #[.int .u64 m, .int .u64 a, .int .u64 b] w fun e w' => e = .returned (.int .u64 r) ∧ ∃ n, w' = w.drewN n := by
  go_enter Tryd.func39, Tryd.ntmps39
  go_wp2_with (first | (go_at_call 53; refine (hmul _).mono ?_; rintro e w' ⟨rfl, rfl⟩) | (go_at_call 54; refine (hdiv _).mono ?_; rintro e w' ⟨rfl, n, rfl⟩))
  go_ret
  exact ⟨rfl, _, rfl⟩

theorem mulRests_any (m a b : Nat) (w : World) (hm : m < 18446744073709551616) (ha : a < m) (hb : b < m) :
    Calls Tryd.prog 39 #[.int .u64 m, .int .u64 a, .int .u64 b] w fun e w' => e = .returned (.int .u64 ((a * b % m : Nat) : Int)) ∧ ∃ n, w' = w.drewN n := by
  have hlt : a * b < m * 18446744073709551616 := Nat.mul_lt_mul_of_lt_of_lt ha (by omega)
  have hhi : a * b / 18446744073709551616 < m := by rw [Nat.div_lt_iff_lt_mul (by decide)]; exact hlt
  have hd := Nat.div_add_mod' (a * b) 18446744073709551616
  have := mulRests_core m a b _ _ _ _ w (fun w => (Tryd.bits_Mul64 a b (by omega) (by omega) w).mono fun e w' ⟨he, hw⟩ => ⟨he, hw.symm⟩)
    (fun w => div64_any _ _ m w (Nat.mod_lt _ (by decide)) hm hhi)
  rwa [hd] at this

theorem and_one (a : Nat) (ha : a < 18446744073709551616) : bits .and .u64 (a : Int) 1 = ((a % 2 : Nat) : Int) := by
  have h := bits_and_u64_nat a 1 ha (by omega)
  have e : a &&& 1 = a % 2 := Nat.and_two_pow_sub_one_eq_mod a 1
  rw [e] at h
  exact h

end Go.Proofs.YtckjojmphdoghaaDoor

namespace Go.Proofs.YtckjojmphdoghaaDoor
open Go.RowKit Go.Proofs
set_option linter.unusedVariables false

theorem add_any (m a b : Nat) (w : World) (hm : m < 18446744073709551616) (ha : a < 18446744073709551616) (hb : b < 18446744073709551616) :
    Calls Tryd.prog 37 #[.int .u64 m, .int .u64 a, .int .u64 b] w fun e w' => e = .returned (.int .u64 (Ob.add m a b : Nat)) ∧ w = w' := by
  by_cases h : Ob.Mod m
  · obtain ⟨h1, h2⟩ := h
    have la : a % m < m := Nat.mod_lt _ (by omega)
    have lb : b % m < m := Nat.mod_lt _ (by omega)
    have e : Hid (Ob.add m a b = (a % m + b % m) % m) := by rw [Ob.add_yes ⟨h1, h2⟩, Nat.add_mod]; rfl
    go_enter Tryd.func37, Tryd.ntmps37
    go_wp2_with (first | (go_at_call 38; refine (isModulus_yes m _ h1 h2).mono ?_; rintro e w' ⟨rfl, rfl⟩) | (go_at_call 40; refine (rest_any m _ _ (by omega) (by assumption)).mono ?_; rintro e w' ⟨rfl, rfl⟩) | (go_at_call 52; refine (addRests_any m (a % m) (b % m) _ h2 (by omega) (by omega) (by omega)).mono ?_; rintro e w' ⟨rfl, rfl⟩))
    go_ret
    exact ⟨ret_int (by rw [e.out]; simp), rfl⟩
  · have e : Hid (Ob.add m a b = 0) := Ob.add_no h
    have h' : m < 2 ∨ 4611686018427387904 < m := Ob.not_mod h
    clear h
    go_enter Tryd.func37, Tryd.ntmps37
    go_wp2_with (go_at_call 38; refine (isModulus_no m _ h').mono ?_; rintro e w' ⟨rfl, rfl⟩)
    go_ret
    exact ⟨ret_int (by rw [e.out]; rfl), rfl⟩

theorem mul_any (m a b : Nat) (w : World) (hm : m < 18446744073709551616) (ha : a < 18446744073709551616) (hb : b < 18446744073709551616) :
    Calls Tryd.prog 26 #[.int .u64 m, .int .u64 a, .int .u64 b] w fun e w' => e = .returned (.int .u64 (Ob.mul m a b : Nat)) ∧ ∃ n, w' = w.drewN n := by
  by_cases h : Ob.Mod m
  · obtain ⟨h1, h2⟩ := h
    have la : a % m < m := Nat.mod_lt _ (by omega)
    have lb : b % m < m := Nat.mod_lt _ (by omega)
    have e : Hid (Ob.mul m a b = a % m * (b % m) % m) := by rw [Ob.mul_yes ⟨h1, h2⟩, Nat.mul_mod]; rfl
    go_enter Tryd.func26, Tryd.ntmps26
    go_wp2_with (first | (go_at_call 38; refine (isModulus_yes m _ h1 h2).mono ?_; rintro e w' ⟨rfl, rfl⟩) | (go_at_call 40; refine (rest_any m _ _ (by omega) (by assumption)).mono ?_; rintro e w' ⟨rfl, rfl⟩) | (go_at_call 39; refine (mulRests_any m (a % m) (b % m) _ hm la lb).mono ?_; rintro e w' ⟨rfl, n, rfl⟩))
    go_ret
    exact ⟨ret_int (by rw [e.out]; simp), _, rfl⟩
  · have e : Hid (Ob.mul m a b = 0) := Ob.mul_no h
    have h' : m < 2 ∨ 4611686018427387904 < m := Ob.not_mod h
    clear h
    go_enter Tryd.func26, Tryd.ntmps26
    go_wp2_with (go_at_call 38; refine (isModulus_no m _ h').mono ?_; rintro e w' ⟨rfl, rfl⟩)
    go_ret
    exact ⟨ret_int (by rw [e.out]; rfl), 0, rfl⟩

end Go.Proofs.YtckjojmphdoghaaDoor

namespace Ob

/-- At every round: r and n are x a and y a modulo m; their divisors are those of m and a; the factors' signs alternate, and they stay within m. -/
structure Euc (m a r n : Nat) (x y : Int) : Prop where
  fx : ∃ k : Int, x * a = r + m * k
  fy : ∃ k : Int, y * a = n + m * k
  gcd : Nat.gcd r n = Nat.gcd m a
  sum : r * y.natAbs + n * x.natAbs = m
  signs : (0 ≤ x ∧ y ≤ 0) ∨ (x ≤ 0 ∧ 0 ≤ y)
  lt : n < r
  small : x.natAbs < m
  le : r ≤ m

theorem Euc.start {m a : Nat} (h : a < m) : Euc m a m a 0 1 where
  fx := ⟨-1, by grind⟩
  fy := ⟨0, by grind⟩
  gcd := rfl
  sum := by simp
  signs := by omega
  lt := h
  small := by simp; omega
  le := Nat.le_refl _

theorem sum_step (r n q d X Y m : Nat) (h : r * Y + n * X = m) (hd : r = q * n + d) : n * (X + q * Y) + d * Y = m := by
  subst hd
  rw [← h, Nat.mul_add, Nat.add_mul, ← Nat.mul_assoc, Nat.mul_comm n q]
  omega

theorem Euc.step {m a r n : Nat} {x y : Int} (h : Euc m a r n x y) (hn : 0 < n) : Euc m a n (r % n) y (x - (r / n : Nat) * y) := by
  have hd : r = r / n * n + r % n := (Nat.div_add_mod' r n).symm
  have hl : r % n < n := Nat.mod_lt _ hn
  generalize r / n = q at *
  have hg : Nat.gcd n (r % n) = Nat.gcd r n := by rw [Nat.gcd_comm, ← Nat.gcd_rec, Nat.gcd_comm]
  generalize r % n = d at *
  obtain ⟨⟨k, hk⟩, ⟨l, hll⟩, g, s, sg, lt, sm, le⟩ := h
  have hab : (x - (q : Int) * y).natAbs = x.natAbs + q * y.natAbs := by
    have e : (q : Int) * y = (q : Int) * y := rfl
    have e2 : ((q : Int) * y).natAbs = q * y.natAbs := by rw [Int.natAbs_mul, Int.natAbs_natCast]
    rcases sg with ⟨h1, h2⟩ | ⟨h1, h2⟩
    · have h3 : (q : Int) * y ≤ 0 := Int.mul_nonpos_of_nonneg_of_nonpos (by omega) h2
      omega
    · have h3 : 0 ≤ (q : Int) * y := Int.mul_nonneg (by omega) h2
      omega
  refine ⟨⟨l, hll⟩, ⟨k - q * l, ?_⟩, by rw [hg, g], ?_, ?_, hl, ?_, by omega⟩
  · have : (r : Int) = q * n + d := by rw [hd]; simp
    grind
  · rw [hab]
    exact sum_step r n q d x.natAbs y.natAbs m s hd
  · rcases sg with ⟨h1, h2⟩ | ⟨h1, h2⟩
    · have h3 : (q : Int) * y ≤ 0 := Int.mul_nonpos_of_nonneg_of_nonpos (by omega) h2
      omega
    · have h3 : 0 ≤ (q : Int) * y := Int.mul_nonneg (by omega) h2
      omega
  · rcases Nat.eq_zero_or_pos y.natAbs with h0 | h0
    · omega
    · have : 2 * y.natAbs ≤ r * y.natAbs := Nat.mul_le_mul_right _ (by omega)
      omega

theorem Euc.bounds {m a r n : Nat} {x y : Int} (h : Euc m a r n x y) : y.natAbs ≤ m := by
  have h1 := h.sum
  have h2 := h.lt
  have : 1 * y.natAbs ≤ r * y.natAbs := Nat.mul_le_mul_right _ (by omega)
  omega

/-- What is told at the end, with the divisor 1. -/
theorem Euc.last {m a r : Nat} {x y : Int} (h : Euc m a r 0 x y) : r = Nat.gcd m a := by
  have := h.gcd
  rw [Nat.gcd_zero_right] at this
  exact this

theorem Euc.inverse {m a : Nat} {x y : Int} (h : Euc m a 1 0 x y) (X : Nat) (hX : (X : Int) = if x < 0 then x + m else x) : X < m ∧ X * a % m = 1 % m := by
  obtain ⟨k, hk⟩ := h.fx
  have hs := h.small
  refine ⟨by split at hX <;> omega, ?_⟩
  have : ∃ j : Int, (X : Int) * a = 1 + m * j := by
    split at hX
    · exact ⟨k + a, by rw [hX]; grind⟩
    · exact ⟨k, by rw [hX]; grind⟩
  obtain ⟨j, hj⟩ := this
  have e : ((X * a % m : Nat) : Int) = ((1 % m : Nat) : Int) := by
    rw [Int.natCast_emod, Int.natCast_mul, hj, Int.add_mul_emod_self_left, Int.natCast_emod]
    rfl
  exact Int.ofNat.inj e

theorem Euc.ends {m a : Nat} : ∀ (n r : Nat) (x y : Int), Euc m a r n x y → ∃ r x y, Euc m a r 0 x y := by
  intro n
  induction n using Nat.strongRecOn with
  | ind n ih =>
    intro r x y h
    rcases Nat.eq_zero_or_pos n with h0 | h0
    · subst h0; exact ⟨r, x, y, h⟩
    · exact ih (r % n) (Nat.mod_lt _ h0) n y _ (h.step h0)

/-- What has no divisor in common with m has an inverse. -/
theorem inverse_exists {m a : Nat} (hm : 2 ≤ m) (hg : Nat.gcd m a = 1) : ∃ X, X < m ∧ X * a % m = 1 % m := by
  have hl : a % m < m := Nat.mod_lt _ (by omega)
  obtain ⟨r, x, y, h⟩ := Euc.ends _ _ _ _ (Euc.start hl)
  have hr := h.last
  have e : Nat.gcd m (a % m) = 1 := by rw [Nat.gcd_comm, ← Nat.gcd_rec, hg]
  rw [e] at hr
  subst hr
  have hs := h.small
  obtain ⟨h1, h2⟩ := h.inverse (if x < 0 then x + m else x).toNat (by split <;> omega)
  refine ⟨_, h1, ?_⟩
  rw [Nat.mul_mod, Nat.mod_mod, ← Nat.mul_mod] at h2
  exact h2
end Ob

namespace Go.Proofs.YtckjojmphdoghaaDoor
open Go.RowKit Go.Proofs
set_option linter.unusedVariables false

theorem w64_in (n : Int) (h1 : -9223372036854775808 ≤ n) (h2 : n ≤ 9223372036854775807) : wrap64 n = n := IntWalk.wrap64_in n ⟨h1, h2⟩

end Go.Proofs.YtckjojmphdoghaaDoor

namespace Go.Proofs.YtckjojmphdoghaaDoor
open Go.RowKit Go.Proofs
set_option linter.unusedVariables false

theorem add_rests (m x y : Nat) (hx : x < m) (hy : y < m) : (x + y) % m = if m - y ≤ x then x - (m - y) else x + y := by
  split
  · rw [Nat.mod_eq_sub_mod (by omega), Nat.mod_eq_of_lt (by omega)]; omega
  · rw [Nat.mod_eq_of_lt (by omega)]

set_option maxHeartbeats 400000 in
theorem radd_any (m a b : Nat) (w : World) (h : Ob.Mod m) (ha : a < 18446744073709551616) (hb : b < 18446744073709551616) :
    Calls Tryd.prog 41 #[.int .u64 m, .int .u64 a, .int .u64 b] w fun e w' => e = .returned (.int .u64 (Ob.add m a b : Nat)) ∧ w = w' := by
  obtain ⟨x, ex, hx⟩ : ∃ x : Nat, (a : Int) % (m : Int) = (x : Int) ∧ Hid (x = a % m) := ⟨a % m, by simp, rfl⟩
  obtain ⟨y, ey, hy⟩ : ∃ y : Nat, (b : Int) % (m : Int) = (y : Int) ∧ Hid (y = b % m) := ⟨b % m, by simp, rfl⟩
  have h1 := h.1
  have h2 := h.2
  have lx : x < m := by rw [hx.out]; exact Nat.mod_lt _ (by omega)
  have ly : y < m := by rw [hy.out]; exact Nat.mod_lt _ (by omega)
  have he : Hid (Ob.add m a b = if m - y ≤ x then x - (m - y) else x + y) := by
    show Ob.add m a b = if m - y ≤ x then x - (m - y) else x + y
    rw [Ob.add_yes h, ← add_rests m x y lx ly, hx.out, hy.out, ← Nat.add_mod]
  clear hx hy h
  by_cases hc : m ≤ x + y
  · have hn : Hid (Ob.add m a b = x - (m - y)) := by rw [he.out, if_pos (by omega)]; rfl
    clear he
    go_enter Tryd.func41, Tryd.ntmps41
    go_wp2
    go_ret
    exact ⟨ret_int (by rw [hn.out]; omega), rfl⟩
  · have hn : Hid (Ob.add m a b = x + y) := by rw [he.out, if_neg (by omega)]; rfl
    clear he
    go_enter Tryd.func41, Tryd.ntmps41
    go_wp2
    go_ret
    exact ⟨ret_int (by rw [hn.out]; omega), rfl⟩

/-- One round of the product by doubling. -/
theorem mul_round (m x y o k : Nat) (hm : 0 < m) (hx : x < m) (ho : o = x * (y / 2 ^ (k + 1)) % m) (b : Nat) (hb : b = y / 2 ^ k % 2) :
    x * (y / 2 ^ k) % m = ((o + o) % m + x * b) % m := by rw [Ob.mul_bit, ← ho, ← hb]

set_option maxHeartbeats 1000000 in
theorem rmul_any (m a b : Nat) (w : World) (h : Ob.Mod m) (ha : a < 18446744073709551616) (hb : b < 18446744073709551616) :
    Calls Tryd.prog 42 #[.int .u64 m, .int .u64 a, .int .u64 b] w fun e w' => e = .returned (.int .u64 (Ob.mul m a b : Nat)) ∧ w = w' := by
  obtain ⟨x, ex, hx⟩ : ∃ x : Nat, (a : Int) % (m : Int) = (x : Int) ∧ Hid (x = a % m) := ⟨a % m, by simp, rfl⟩
  obtain ⟨y, ey, hy⟩ : ∃ y : Nat, (b : Int) % (m : Int) = (y : Int) ∧ Hid (y = b % m) := ⟨b % m, by simp, rfl⟩
  have h1 := h.1
  have h2 := h.2
  have lx : x < m := by rw [hx.out]; exact Nat.mod_lt _ (by omega)
  have ly : y < m := by rw [hy.out]; exact Nat.mod_lt _ (by omega)
  have hlast : Hid (x * y % m = Ob.mul m a b) := by
    show x * y % m = Ob.mul m a b
    rw [Ob.mul_yes h, hx.out, hy.out, ← Nat.mul_mod]
  clear hx hy h
  go_enter Tryd.func42, Tryd.ntmps42
  go_wp2
  go_loop [9, 10] (fun so si => ∃ o i : Nat, o < m ∧ i ≤ 64 ∧ so = .int .u64 o ∧ si = .int .i64 i ∧ Hid (o = x * (y / 2 ^ (64 - i)) % m)) (fun _ si => 64 - (intOf si).toNat)
  case atStart => exact ⟨0, 0, by omega, by omega, rfl, rfl, by
    have : y / 2 ^ (64 - 0) = 0 := Nat.div_eq_of_lt (by omega)
    show 0 = x * (y / 2 ^ (64 - 0)) % m
    rw [this, Nat.mul_zero, Nat.zero_mod]⟩
  case round =>
    obtain ⟨o, i, ho, hi, rfl, rfl, hI⟩ := hrel
    by_cases hlt : i < 64
    · obtain ⟨k, hk⟩ : ∃ k, k + i = 63 := ⟨63 - i, by omega⟩
      have hyk : y / 2 ^ k < 18446744073709551616 := Nat.lt_of_le_of_lt (Nat.div_le_self _ _) (by omega)
      obtain ⟨t, ht⟩ : ∃ t : Nat, (y : Int) / 2 ^ (63 - i) = (t : Int) ∧ Hid (t = y / 2 ^ k) := ⟨y / 2 ^ k, by
        have : 63 - i = k := by omega
        rw [this]
        simp, rfl⟩
      obtain ⟨ht, htk⟩ := ht
      have hand := and_one t (by rw [htk.out]; exact hyk)
      obtain ⟨d, hd, hdd⟩ : ∃ d : Nat, d < m ∧ Hid (d = (o + o) % m) := ⟨(o + o) % m, Nat.mod_lt _ (by omega), rfl⟩
      have hI2 : Hid (x * (y / 2 ^ k) % m = (d + x * (t % 2)) % m) := by
        have e1 : 64 - i = k + 1 := by omega
        have := hI.out
        rw [e1] at this
        show x * (y / 2 ^ k) % m = (d + x * (t % 2)) % m
        rw [mul_round m x y o k (by omega) lx this (t % 2) (by rw [htk.out]), hdd.out]
      clear hI
      have hdo : (m ≤ o + o ∧ (o : Int) - ((m : Int) - (o : Int)) = (d : Int)) ∨ (o + o < m ∧ (o : Int) + (o : Int) = (d : Int)) := by
        have := hdd.out
        rcases Nat.lt_or_ge (o + o) m with c | c
        · exact Or.inr ⟨c, by rw [Nat.mod_eq_of_lt c] at this; omega⟩
        · refine Or.inl ⟨c, ?_⟩
          rw [Nat.mod_eq_sub_mod c, Nat.mod_eq_of_lt (by omega)] at this
          omega
      clear hdd hyk htk
      have e2 : Hid (64 - (i + 1) = k) := by show 64 - (i + 1) = k; omega
      by_cases hbit : t % 2 = 1
      · have hb1 : ((t % 2 : Nat) : Int) = 1 := by omega
        rw [hb1] at hand
        clear hb1
        have hI3 : Hid (x * (y / 2 ^ k) % m = (d + x) % m) := by have := hI2.out; rw [hbit, Nat.mul_one] at this; exact this
        clear hI2 hbit
        by_cases hc : m ≤ d + x
        · have hn : Hid (d - (m - x) = x * (y / 2 ^ k) % m) := by
            show d - (m - x) = x * (y / 2 ^ k) % m
            rw [hI3.out, Nat.mod_eq_sub_mod hc, Nat.mod_eq_of_lt (by omega)]
            omega
          clear hI3
          rcases hdo with ⟨c1, c2⟩ | ⟨c1, c2⟩
          all_goals
            go_wp2
            go_round
            case rel => exact ⟨d - (m - x), i + 1, by omega, by omega, val_int (by omega), by go_num, by show d - (m - x) = _; rw [e2.out]; exact hn⟩
            case measure => simp [intOf]; omega
        · have hn : Hid (d + x = x * (y / 2 ^ k) % m) := by
            show d + x = x * (y / 2 ^ k) % m
            rw [hI3.out, Nat.mod_eq_of_lt (by omega)]
          clear hI3
          rcases hdo with ⟨c1, c2⟩ | ⟨c1, c2⟩
          all_goals
            go_wp2
            go_round
            case rel => exact ⟨d + x, i + 1, by omega, by omega, val_int (by omega), by go_num, by show d + x = _; rw [e2.out]; exact hn⟩
            case measure => simp [intOf]; omega
      · have hb1 : ((t % 2 : Nat) : Int) = 0 := by omega
        rw [hb1] at hand
        clear hb1
        have hn : Hid (d = x * (y / 2 ^ k) % m) := by
          have := hI2.out
          have hz : t % 2 = 0 := by omega
          rw [hz, Nat.mul_zero, Nat.add_zero, Nat.mod_eq_of_lt hd] at this
          exact this.symm
        clear hI2 hbit
        rcases hdo with ⟨c1, c2⟩ | ⟨c1, c2⟩
        all_goals
          go_wp2
          go_round
          case rel => exact ⟨d, i + 1, by omega, by omega, by first | rfl | exact val_int (by omega), by go_num, by show d = _; rw [e2.out]; exact hn⟩
          case measure => simp [intOf]; omega
    · have hn : Hid (o = Ob.mul m a b) := by
        have := hI.out
        have e : 64 - i = 0 := by omega
        rw [e, Nat.pow_zero, Nat.div_one, hlast.out] at this
        exact this
      clear hI hlast
      go_wp2
      go_ret
      exact ⟨ret_int (by rw [hn.out]), rfl⟩

end Go.Proofs.YtckjojmphdoghaaDoor

namespace Go.Proofs.YtckjojmphdoghaaDoor
open Go.RowKit Go.Proofs
set_option linter.unusedVariables false
set_option linter.unusedSimpArgs false
attribute [local go_sem ↓] Go.wp_at_zero Go.wp_at_succ

theorem rmulR (a b : Nat) (ha : a < 18446744073709551616) (hb : b < 18446744073709551616) (w : World) :
    Calls Tryd.prog 42 #[.int .u64 288230376287764481, .int .u64 a, .int .u64 b] w fun e w' => e = .returned (.int .u64 ((Ob.toG a * Ob.toG b).val : Nat)) ∧ w = w' := by
  rw [← Ob.mulG]
  exact rmul_any Ob.RE a b w Ob.modRE ha hb
theorem raddR (a b : Nat) (ha : a < 18446744073709551616) (hb : b < 18446744073709551616) (w : World) :
    Calls Tryd.prog 41 #[.int .u64 288230376287764481, .int .u64 a, .int .u64 b] w fun e w' => e = .returned (.int .u64 ((Ob.toG a + Ob.toG b).val : Nat)) ∧ w = w' := by
  rw [← Ob.addG]
  exact radd_any Ob.RE a b w Ob.modRE ha hb
theorem gmulW (a b : Nat) (ha : a < 18446744073709551616) (hb : b < 18446744073709551616) (w : World) :
    Calls Tryd.prog 28 #[.int .u64 a, .int .u64 b] w fun e w' => e = .returned (.int .u64 ((Ob.toG a * Ob.toG b).val : Nat)) ∧ w = w' := by
  have c0 := rmulR a b ha hb
  generalize (Ob.toG a * Ob.toG b).val = r at *
  go_enter Tryd.func28, Tryd.ntmps28
  go_wp2_with (first | (go_at_call 42; first | (with_reducible refine (c0 _).mono ?_; rintro e w' ⟨rfl, rfl⟩)))
  go_ret
  exact ⟨rfl, rfl⟩
theorem gplusW (a b : Nat) (ha : a < 18446744073709551616) (hb : b < 18446744073709551616) (w : World) :
    Calls Tryd.prog 27 #[.int .u64 a, .int .u64 b] w fun e w' => e = .returned (.int .u64 ((Ob.toG a + Ob.toG b).val : Nat)) ∧ w = w' := by
  have c0 := raddR a b ha hb
  generalize (Ob.toG a + Ob.toG b).val = r at *
  go_enter Tryd.func27, Tryd.ntmps27
  go_wp2_with (first | (go_at_call 41; first | (with_reducible refine (c0 _).mono ?_; rintro e w' ⟨rfl, rfl⟩)))
  go_ret
  exact ⟨rfl, rfl⟩
end Go.Proofs.YtckjojmphdoghaaDoor

namespace Go.Proofs.YtckjojmphdoghaaDoor
open Go
set_option linter.unusedVariables false
set_option linter.unusedSimpArgs false
section
variable {P : Program} {ops : Array Oper} {Q : Exit → Act → World → Prop} {md : Region.Mode} {S : World → Prop} {Z : List Nat}

/-- Whatever order is picked; S holds behind each operation but those of Z. -/
def AnyZ (P : Program) (md : Region.Mode) (ops : Array Oper) (Q : Exit → Act → World → Prop) (S : World → Prop) (Z : List Nat) : Nat → Array Bool → Act → World → Prop
  | 0, L, a, w => Region.ready md ops L = [] ∧ Q .normal a w
  | n + 1, L, a, w => (Region.ready md ops L = [] → Q .normal a w) ∧
    ∀ i ∈ Region.ready md ops L, wpOp P ops Q i (fun a' w' => (Z.contains i = false → S w → S w') ∧ AnyZ P md ops Q S Z n (L.setIfInBounds i true) a' w') a w

theorem AnyZ.any : ∀ (n : Nat) (L : Array Bool) (a : Act) (w : World), AnyZ P md ops Q S Z n L a w → wpAny P md ops Q n L a w
  | 0, _, _, _, h => h
  | n + 1, _, _, _, h => ⟨h.1, fun i hi => wpOp_mono (fun a' w' k => AnyZ.any n _ a' w' k.2) (h.2 i hi)⟩

/-- Each of Z waits for number i. -/
def waits (md : Region.Mode) (ops : Array Oper) (Z : List Nat) (i : Nat) : Bool :=
  Z.all fun j => match ops[j]? with
    | some o => o.after.any fun e => Region.binds md e && e.on == i
    | none => false
theorem waits_not {i j : Nat} {L : Array Bool} (h : waits md ops Z i = true) (hi : i ∈ Region.ready md ops L) (hj : j ∈ Region.ready md ops L) : Z.contains j = false := by
  cases hz : Z.contains j with
  | false => rfl
  | true =>
    have hm : j ∈ Z := by simpa using hz
    have h1 := List.all_eq_true.1 h j hm
    obtain ⟨_, o, ho, hall⟩ := mem_ready.1 hj
    rw [ho] at h1
    obtain ⟨e, he, hb⟩ := Array.any_eq_true'.1 h1
    simp only [Bool.and_eq_true, beq_iff_eq] at hb
    have h2 := hall e he hb.1
    rw [hb.2] at h2
    have h3 := (mem_ready.1 hi).1
    cases hl : L[i]? with
    | none => simp [hl] at h2
    | some b => simp [hl] at h2 h3; rw [h2] at h3; cases h3

theorem AnyZ.first {i : Nat} {o : Oper} {v : Value} (hi : ops[i]? = some o) (hs : ∀ (j : Nat) (o : Oper) cs b, ops[j]? = some o → o.op ≠ .select cs b)
    (hQ : ∀ c a w, Q (.panic c) (a.put o.dst v) w → Q (.panic c) a w) (hz : waits md ops Z i = true) :
    ∀ (n : Nat) (L : Array Bool) (a : Act) (w : World),
      (∀ j oj, ops[j]? = some oj → j ≠ i → L.getD j true = false → (∀ e ∈ oj.after, Region.binds md e = true → e.on ≠ i) → o.apart ops oj = true) →
      i ∈ Region.ready md ops L → YieldsIf P ops S o v a → S w → AnyZ P md ops Q S Z n (L.setIfInBounds i true) (a.put o.dst v) w → AnyZ P md ops Q S Z (n + 1) L a w
  | n, L, a, w, hfree, hr, hy, hS, H => by
    refine ⟨fun h => absurd hr (by simp [h]), fun j hj => ?_⟩
    by_cases hji : j = i
    · subst hji
      exact hy.wpOp hi hS ⟨fun _ _ => hS, H⟩
    have hj2 := ready_mono hj hji
    cases n with
    | zero => exact absurd hj2 (by simp [H.1])
    | succ n =>
      obtain ⟨hun, oj, hoj, hall⟩ := mem_ready.1 hj
      have hno : ∀ e ∈ oj.after, Region.binds md e = true → e.on ≠ i := fun e he hb e1 => by
        have h2 := hall e he hb
        have h3 := (mem_ready.1 hr).1
        rw [e1] at h2
        cases hl : L[i]? with
        | none => simp [hl] at h2
        | some b => simp [hl] at h2 h3; rw [h2] at h3; cases h3
      have hk := waits_not hz hr hj
      refine wpOp_mono (fun a' w' h3 => ?_) (wpOp_putIf hoj (hfree j oj hoj hji hun hno) (fun cs b => hs i o cs b hi) (fun cs b => hs j oj cs b hoj) hQ hy (H.2 j hj2))
      refine ⟨h3.2.1, AnyZ.first hi hs hQ hz n _ a' w' (fun k ok hok hki hun' hno' => hfree k ok hok hki ?_ hno') (ready_mono hr (Ne.symm hji)) h3.1 (h3.2.1 hk hS) ?_⟩
      · by_cases hjk : j = k
        · subst hjk; exact hun
        · rwa [getD_set_ne true hjk] at hun'
      · rw [Array.setIfInBounds_comm _ _ hji]
        exact h3.2.2

theorem anyZ_take {i : Nat} {oi : Oper} {v : Value} {n : Nat} {L : Array Bool} {a : Act} {w : World} (hi : ops[i]? = some oi) (hz : waits md ops Z i = true)
    (hs : Region.noSelect ops = true) (hf : Region.free md ops L i = true) (hr : (Region.ready md ops L).contains i = true)
    (hQ : ∀ c a w, Q (.panic c) (a.put oi.dst v) w → Q (.panic c) a w) (hy : YieldsIf P ops S oi v a) (hS : S w)
    (h : AnyZ P md ops Q S Z n (L.setIfInBounds i true) (a.put oi.dst v) w) : AnyZ P md ops Q S Z (n + 1) L a w :=
  AnyZ.first hi (Region.noSelect_spec hs) hQ hz n L a w (Region.free_spec hi hf) (by simpa using hr) hy hS h

/-- One that yields the same in every world may be taken first, whatever waits for it. -/
theorem AnyZ.free {i : Nat} {o : Oper} {v : Value} (hi : ops[i]? = some o) (hs : ∀ (j : Nat) (o : Oper) cs b, ops[j]? = some o → o.op ≠ .select cs b)
    (hQ : ∀ c a w, Q (.panic c) (a.put o.dst v) w → Q (.panic c) a w) :
    ∀ (n : Nat) (L : Array Bool) (a : Act) (w : World),
      (∀ j oj, ops[j]? = some oj → j ≠ i → L.getD j true = false → (∀ e ∈ oj.after, Region.binds md e = true → e.on ≠ i) → o.apart ops oj = true) →
      i ∈ Region.ready md ops L → YieldsIf P ops (fun _ => True) o v a → AnyZ P md ops Q S Z n (L.setIfInBounds i true) (a.put o.dst v) w → AnyZ P md ops Q S Z (n + 1) L a w
  | n, L, a, w, hfree, hr, hy, H => by
    refine ⟨fun h => absurd hr (by simp [h]), fun j hj => ?_⟩
    by_cases hji : j = i
    · subst hji
      exact hy.wpOp hi True.intro ⟨fun _ h => h, H⟩
    have hj2 := ready_mono hj hji
    cases n with
    | zero => exact absurd hj2 (by simp [H.1])
    | succ n =>
      obtain ⟨hun, oj, hoj, hall⟩ := mem_ready.1 hj
      have hno : ∀ e ∈ oj.after, Region.binds md e = true → e.on ≠ i := fun e he hb e1 => by
        have h2 := hall e he hb
        have h3 := (mem_ready.1 hr).1
        rw [e1] at h2
        cases hl : L[i]? with
        | none => simp [hl] at h2
        | some b => simp [hl] at h2 h3; rw [h2] at h3; cases h3
      refine wpOp_mono (fun a' w' h3 => ?_) (wpOp_putIf hoj (hfree j oj hoj hji hun hno) (fun cs b => hs i o cs b hi) (fun cs b => hs j oj cs b hoj) hQ hy (H.2 j hj2))
      refine ⟨h3.2.1, AnyZ.free hi hs hQ n _ a' w' (fun k ok hok hki hun' hno' => hfree k ok hok hki ?_ hno') (ready_mono hr (Ne.symm hji)) h3.1 ?_⟩
      · by_cases hjk : j = k
        · subst hjk; exact hun
        · rwa [getD_set_ne true hjk] at hun'
      · rw [Array.setIfInBounds_comm _ _ hji]
        exact h3.2.2
theorem anyZ_free {i : Nat} {oi : Oper} {v : Value} {n : Nat} {L : Array Bool} {a : Act} {w : World} (hi : ops[i]? = some oi)
    (hs : Region.noSelect ops = true) (hf : Region.free md ops L i = true) (hr : (Region.ready md ops L).contains i = true)
    (hQ : ∀ c a w, Q (.panic c) (a.put oi.dst v) w → Q (.panic c) a w) (hy : YieldsIf P ops (fun _ => True) oi v a)
    (h : AnyZ P md ops Q S Z n (L.setIfInBounds i true) (a.put oi.dst v) w) : AnyZ P md ops Q S Z (n + 1) L a w :=
  AnyZ.free hi (Region.noSelect_spec hs) hQ n L a w (Region.free_spec hi hf) (by simpa using hr) hy h

def AllZ (P : Program) (md : Region.Mode) (ops : Array Oper) (Q : Exit → Act → World → Prop) (S : World → Prop) (Z : List Nat) (n : Nat) (L : Array Bool) (a : Act) (w : World) (rs : List Nat) : Prop :=
  ∀ i ∈ rs, wpOp P ops Q i (fun a' w' => (Z.contains i = false → S w → S w') ∧ AnyZ P md ops Q S Z n (L.setIfInBounds i true) a' w') a w
theorem AllZ.nil {n : Nat} {L : Array Bool} {a : Act} {w : World} : AllZ P md ops Q S Z n L a w [] := fun _ h => absurd h (by simp)
/-- One that keeps S. -/
theorem AllZ.cons {n : Nat} {L : Array Bool} {a : Act} {w : World} {i : Nat} {o : Oper} {rs : List Nat} (ho : ops[i]? = some o)
    (h : ∀ K : Act → World → Prop, Shut (∀ a w, S w → (S w → AnyZ P md ops Q S Z n (L.setIfInBounds i true) a w) → K a w) → if Region.wanted o (yielded ops a.tmps) = true then Oper.wp P o a w K Q else K (a.put o.dst undef) w)
    (hs : AllZ P md ops Q S Z n L a w rs) : AllZ P md ops Q S Z n L a w (i :: rs) := fun j hj => by
  rcases List.mem_cons.1 hj with rfl | hj
  · exact wpOp_step ho fun K hK => h K fun a w hS hW => hK a w ⟨fun _ _ => hS, hW hS⟩
  · exact hs j hj
/-- One of Z. -/
theorem AllZ.last {n : Nat} {L : Array Bool} {a : Act} {w : World} {i : Nat} {o : Oper} {rs : List Nat} (ho : ops[i]? = some o) (hz : Z.contains i = true)
    (h : ∀ K : Act → World → Prop, Shut (∀ a w, AnyZ P md ops Q S Z n (L.setIfInBounds i true) a w → K a w) → if Region.wanted o (yielded ops a.tmps) = true then Oper.wp P o a w K Q else K (a.put o.dst undef) w)
    (hs : AllZ P md ops Q S Z n L a w rs) : AllZ P md ops Q S Z n L a w (i :: rs) := fun j hj => by
  rcases List.mem_cons.1 hj with rfl | hj
  · exact wpOp_step ho fun K hK => h K fun a w hW => hK a w ⟨fun e => absurd (hz.symm.trans e) (by decide), hW⟩
  · exact hs j hj
theorem anyZ_ready {rs : List Nat} {n : Nat} {L : Array Bool} {a : Act} {w : World} (hr : Region.ready md ops L = rs) (hne : rs ≠ []) (h : AllZ P md ops Q S Z n L a w rs) : AnyZ P md ops Q S Z (n + 1) L a w :=
  ⟨fun e => absurd (hr.symm.trans e) hne, by rw [hr]; exact h⟩
theorem anyZ_done {L : Array Bool} {a : Act} {w : World} (hr : Region.ready md ops L = []) (h : Q .normal a w) : ∀ n, AnyZ P md ops Q S Z n L a w
  | 0 => ⟨hr, h⟩
  | _ + 1 => ⟨fun _ => h, fun i hi => absurd hi (by simp [hr])⟩
theorem region_lastly {id : Nat} {a : Act} {w : World} (Z : List Nat) (hm : P.follows .mixedOrders = true) (hS : S w.drew)
    (h : S w.drew → AnyZ P .any ops Q S Z ops.size (Array.replicate ops.size false) a w.drew) : (Code.region id ops true).wp P Q a w :=
  wp_region_any hm (AnyZ.any _ _ _ _ (h hS))
end
end Go.Proofs.YtckjojmphdoghaaDoor

namespace Go.Proofs.YtckjojmphdoghaaDoor
open Go.RowKit Go.Proofs
set_option linter.unusedVariables false
set_option linter.unusedSimpArgs false
attribute [local go_sem ↓] Go.wp_at_zero Go.wp_at_succ
set_option maxHeartbeats 4000000 in
theorem vsoundW (L : Lst) (hL : L.Ok) (vars : Int) (w : World) (hA : L.At w.heap.size w) :
    Calls Tryd.prog 22 #[L.val, .int .i64 vars] w fun e w' => e = .returned (.bool (soundB vars L)) ∧ w = w' := by
  have hA' : Hid (L.At w.heap.size w) := hA
  have hL' : Hid L.Ok := hL
  obtain ⟨S, hS⟩ : ∃ S, Hid (soundB vars L = S) := ⟨_, rfl⟩
  rw [hS.out]
  have hn : L.n ≤ 9223372036854775807 := Nat.le_trans hL.n1 hL.n2
  clear hA hL
  unfold Lst.val
  go_enter Tryd.func22, Tryd.ntmps22
  go_wp2
  go_loopw [5, 6] (fun sl si wr => ∃ (i : Nat) (l : Int), i ≤ L.n ∧ sl = .int .i64 l ∧ si = .int .i64 i ∧ w = wr ∧ Hid (l = prevV L i) ∧ Hid (soundN vars L i = true)) (fun sl si _ => L.n - (intOf si).toNat)
  case atStart => exact ⟨0, -1, by omega, rfl, rfl, rfl, rfl, rfl⟩
  case round =>
    obtain ⟨i, l, hi, rfl, rfl, rfl, hl, hI⟩ := hrel
    by_cases hlt : i < L.n
    · have hlt' : (i : Int) < (L.n : Int) := by omega
      rcases hA'.out with hn | ⟨b, off, hb, lb, tb⟩
      · omega
      have c0 := tb.c0 i hlt
      have c1 := tb.c1 i hlt
      have hK := hL'.out.K1 i
      have hdec : Hid (okT vars L i = false → S = false) := fun h => by rw [← hS.out]; exact soundN_not h hlt
      have hstep : Hid (okT vars L i = true → soundN vars L (i + 1) = true) := fun h => by show (soundN vars L i && okT vars L i) = true; rw [hI.out, h]; rfl
      have hok : Hid (okT vars L i = decide (l < L.V i ∧ L.V i < vars ∧ L.K i ≠ 0 ∧ L.K i < 288230376287764481)) := by rw [hl.out]; exact rfl
      have hnext : Hid (L.V i = prevV L (i + 1)) := rfl
      rw [hb]
      generalize L.V i = Vi at *
      generalize L.K i = Ki at *
      clear tb lb
      by_cases h1 : l < Vi
      · have h1' : ¬ Vi ≤ l := by omega
        by_cases h2 : Vi < vars
        · have h2' : ¬ vars ≤ Vi := by omega
          by_cases h3 : Ki = 0
          · subst h3
            obtain rfl := hdec.out (hok.out.trans (decide_eq_false (by omega)))
            go_wp2
            go_ret
            exact ⟨rfl, rfl⟩
          · have h3' : ((Ki : Int) == 0) = false := by rw [beq_eq_false_iff_ne]; omega
            by_cases h4 : Ki < 288230376287764481
            · have h4' : ¬ (288230376287764481 : Int) ≤ (Ki : Int) := by omega
              have hst := hstep.out (hok.out.trans (decide_eq_true ⟨h1, h2, h3, h4⟩))
              have hst' : Hid (soundN vars L (i + 1) = true) := hst
              clear hst hdec hstep hok h3 h4
              go_wp2
              go_roundw
              case rel => exact ⟨i + 1, Vi, by omega, by first | rfl | trivial, by go_num, by first | rfl | trivial, hnext, hst'⟩
              case measure => (simp [intOf]; omega)
            · have h4' : (288230376287764481 : Int) ≤ (Ki : Int) := by omega
              obtain rfl := hdec.out (hok.out.trans (decide_eq_false (by omega)))
              go_wp2
              go_ret
              exact ⟨rfl, rfl⟩
        · have h2' : vars ≤ Vi := by omega
          obtain rfl := hdec.out (hok.out.trans (decide_eq_false (by omega)))
          go_wp2
          go_ret
          exact ⟨rfl, rfl⟩
      · have h1' : Vi ≤ l := by omega
        obtain rfl := hdec.out (hok.out.trans (decide_eq_false (by omega)))
        go_wp2
        go_ret
        exact ⟨rfl, rfl⟩
    · have hlt' : ¬ (i : Int) < (L.n : Int) := by omega
      obtain rfl : i = L.n := by omega
      obtain rfl : S = true := hS.out.symm.trans hI.out
      go_wp2
      go_ret
      exact ⟨rfl, rfl⟩
set_option maxHeartbeats 8000000 in
theorem vvalueW (L : Lst) (hL : L.Ok) (ad : Option Addr) (n c : Nat) (hn : n ≤ 9223372036854775807) (x : Nat → Nat) (hx : ∀ i, x i < 18446744073709551616) (w : World) (hA : L.At w.heap.size w) (hs : SrcW w.heap.size w ad n x) :
    Calls Tryd.prog 14 #[L.val, .slice ad n c] w fun e w' => e = .returned (.int .u64 ((valL L n x).val : Nat)) ∧ Below w.heap.size w w' := by
  have hA' : Hid (L.At w.heap.size w) := hA
  have hL' : Hid L.Ok := hL
  have hs' : Hid (SrcW w.heap.size w ad n x) := hs
  have hx' : Hid (∀ i, x i < 18446744073709551616) := hx
  have hLn : L.n ≤ 9223372036854775807 := Nat.le_trans hL.n1 hL.n2
  obtain ⟨S, hS⟩ : ∃ S, Hid ((valL L n x).val = S) := ⟨_, rfl⟩
  rw [hS.out]
  clear hA hL hs hx
  unfold Lst.val
  go_enter Tryd.func14, Tryd.ntmps14
  go_wp2
  go_loopw [5, 6] (fun so si wr => ∃ (i o : Nat), i ≤ L.n ∧ so = .int .u64 o ∧ si = .int .i64 i ∧ Below w.heap.size w wr ∧ Hid ((valN L n x i).val = o)) (fun so si _ => L.n - (intOf si).toNat)
  case atStart => exact ⟨0, 0, by omega, rfl, rfl, by (repeat' (first | (with_reducible first | exact Below.refl _ _ | assumption | refine Below.alloc ?_ ?_ _ | refine Below.drew ?_ | refine below_drewN ?_ _ | refine Below.setCell ?_ ?_ _ | refine below_via (by with_reducible assumption) ?_ ?_) | omega | (simp only [szs]; omega) | (simp only [szs] at *; omega))), rfl⟩
  case round =>
    obtain ⟨i, o, hi, rfl, rfl, hB, hI⟩ := hrel
    by_cases hlt : i < L.n
    · have hlt' : (i : Int) < (L.n : Int) := by omega
      rcases hA'.out with hz | ⟨b, off, hb, lb, tb⟩
      · omega
      have tb := tb.below hB lb
      have c0 := tb.c0 i hlt
      have c1 := tb.c1 i hlt
      have hK := hL'.out.K1 i
      have hV1 := hL'.out.V1 i
      have hV2 := hL'.out.V2 i
      have lo : o < 18446744073709551616 := by rw [← hI.out]; exact Ob.G_word _
      have hto : Hid (Ob.toG o = valN L n x i) := by show _ = _; rw [← hI.out, Ob.toG_of_val]
      have hstep : Hid (valN L n x (i + 1) = valN L n x i + termG L n x i) := rfl
      have hI2 : Hid ((valN L n x i).val = o) := hI.out
      rw [hb]
      clear hI
      by_cases h1 : 0 ≤ L.V i ∧ L.V i < (n : Int)
      · obtain ⟨h1, h2⟩ := h1
        obtain ⟨v, hv⟩ : ∃ v : Nat, L.V i = (v : Int) := ⟨(L.V i).toNat, by omega⟩
        have hvn : v < n := by omega
        rcases hs'.out with hz | ⟨bs, os, rfl, ls, ws⟩
        · omega
        have c2 := (ws.below hB ls).at_ v hvn
        have hxv := hx'.out v
        have ht : Hid (termG L n x i = Ob.toG (L.K i) * Ob.toG (x v)) := by
          show termG L n x i = _
          unfold termG
          rw [if_pos ⟨h1, h2⟩, hv, Int.toNat_natCast]
        have cm := gmulW (L.K i) (x v) hK hxv
        have lp := Ob.G_word (Ob.toG (L.K i) * Ob.toG (x v))
        have ep : Ob.toG (Ob.toG (L.K i) * Ob.toG (x v)).val = termG L n x i := by rw [Ob.toG_of_val, ht.out]
        obtain ⟨p, hp⟩ : ∃ p, Hid ((Ob.toG (L.K i) * Ob.toG (x v)).val = p) := ⟨_, rfl⟩
        rw [hp.out] at cm lp ep
        have ca := gplusW o p lo lp
        have ho' : Hid ((valN L n x (i + 1)).val = (Ob.toG o + Ob.toG p).val) := by show _ = _; rw [ep, hto.out, hstep.out]
        generalize (Ob.toG o + Ob.toG p).val = o' at *
        rw [hv] at c0 h1 h2
        clear hV1 hV2 hstep hto ht hxv lo hK hv hp ep lp
        generalize x v = xv at *
        generalize L.K i = Ki at *
        have zB := hB.size
        clear tb ws
        go_wp2
        go_region_held3 (fun w' => w'.cell? ⟨b, off + i * 2, none⟩ = some (.int .i64 (v : Nat)) ∧ w'.cell? ⟨b, off + i * 2 + 1, none⟩ = some (.int .u64 (Ki : Nat)) ∧ w'.cell? ⟨bs, os + v, none⟩ = some (.int .u64 (xv : Nat))) (go_keep)
          ((first | (go_at_call 28; first | (with_reducible refine (cm _).mono ?_; rintro e w' ⟨rfl, rfl⟩)) | (go_at_call 27; first | (with_reducible refine (ca _).mono ?_; rintro e w' ⟨rfl, rfl⟩))))
        go_wp2
        go_roundw
        case rel => exact ⟨i + 1, o', by omega, by first | rfl | trivial, by go_num, by (repeat' (first | (with_reducible first | exact Below.refl _ _ | assumption | refine Below.alloc ?_ ?_ _ | refine Below.drew ?_ | refine below_drewN ?_ _ | refine Below.setCell ?_ ?_ _ | refine below_via (by with_reducible assumption) ?_ ?_) | omega | (simp only [szs]; omega) | (simp only [szs] at *; omega))), ho'⟩
        case measure => (simp [intOf]; omega)
      · have ht : Hid (valN L n x (i + 1) = valN L n x i) := by
          show _ = _
          rw [hstep.out]
          unfold termG
          rw [if_neg h1, Fin.add_zero]
        have ho' : Hid ((valN L n x (i + 1)).val = o) := by
          show _ = _
          rw [ht.out]
          exact hI2.out
        clear hstep hto ht
        generalize L.V i = Vi at *
        generalize L.K i = Ki at *
        clear tb
        by_cases h2 : 0 ≤ Vi
        · have h3 : ¬ Vi < (n : Int) := fun h => h1 ⟨h2, h⟩
          clear h1
          go_wp2
          go_roundw
          case rel => exact ⟨i + 1, o, by omega, by first | rfl | trivial, by go_num, by (repeat' (first | (with_reducible first | exact Below.refl _ _ | assumption | refine Below.alloc ?_ ?_ _ | refine Below.drew ?_ | refine below_drewN ?_ _ | refine Below.setCell ?_ ?_ _ | refine below_via (by with_reducible assumption) ?_ ?_) | omega | (simp only [szs]; omega) | (simp only [szs] at *; omega))), ho'⟩
          case measure => (simp [intOf]; omega)
        · clear h1
          go_wp2
          go_roundw
          case rel => exact ⟨i + 1, o, by omega, by first | rfl | trivial, by go_num, by (repeat' (first | (with_reducible first | exact Below.refl _ _ | assumption | refine Below.alloc ?_ ?_ _ | refine Below.drew ?_ | refine below_drewN ?_ _ | refine Below.setCell ?_ ?_ _ | refine below_via (by with_reducible assumption) ?_ ?_) | omega | (simp only [szs]; omega) | (simp only [szs] at *; omega))), ho'⟩
          case measure => (simp [intOf]; omega)
    · have hlt' : ¬ (i : Int) < (L.n : Int) := by omega
      obtain rfl : i = L.n := by omega
      obtain rfl : o = S := hI.out.symm.trans hS.out
      go_wp2
      go_ret
      exact ⟨rfl, hB⟩
end Go.Proofs.YtckjojmphdoghaaDoor

namespace Go.Proofs.YtckjojmphdoghaaDoor
open Go.RowKit Go.Proofs
set_option linter.unusedVariables false
set_option linter.unusedSimpArgs false

theorem own_below {w w1 : World} {B base n size : Nat} {e : TypeId} {v : Value} {xs : List Value} (h : w.ownsRow base e size v n xs) (hb : Below B w w1) (hl : ∀ k, v.ownBlock = some k → k < B) : w1.ownsRow base e size v n xs := by
  refine ⟨h.1, ?_⟩
  rcases h.2 with h0 | ⟨g, cap, cur, hv, h1, h2, h3⟩
  · exact .inl h0
  · exact .inr ⟨g, cap, cur, hv, h1, by rw [hb.block g (hl g (by rw [hv]; rfl))]; exact h2, h3⟩
end Go.Proofs.YtckjojmphdoghaaDoor
