/-
  Joined texts: The walks of the statements' own maker (obollaw12): a variable that there is, a new one; lists of one and of two. The library's contracts on package math/bits (and the like), laid at this seat's program: each an application of what the shelf proves over any program. The arithmetic under math/bits.Div64: one digit of the school division by two digits of 32 bits; and that shifting both sides by s changes nothing but the remainder's scale. The walk of math/bits.Div64. The walks of package modular: each function's contract in plain numbers. The exported sums, differences, products and powers of package modular. Euclid's way with one factor beside it: what holds at every round, and what is told at the end; the inverse modulo m. The walks of modular.euclid and modular.Inv. The walks of the document's own answers for layer 1 (package obolref01). The walks of the document's own answers for layer 7 (package obolref07): numbers modulo R, points, their sums. The document's own answers of layer 11 (package obolref11): sound lists, values.
-/
import Derived.Test.YtdbolfmmlmoiaaaJ2
import Derived.Shelf.Small.Bits
import Derived.Shelf.Small.Wraps
import Derived.Shelf.Strconv.Itoa0
import Derived.Shelf.Bits.Mul64
import Derived.Ground.Names2Prog
import Derived.Shelf.Slices.SearchI
import Derived.Ground.SlsfProg
import Derived.Shelf.SlSortCmp.Insertion
import Derived.Shelf.SlSortCmp.SiftDown1
import Derived.Shelf.SlSortCmp.HeapSort1
import Derived.Shelf.SlSortCmp.Insertion1
import Derived.Shelf.SlSortCmp.Median1
import Derived.Shelf.SlSortCmp.Pivot1
import Derived.Shelf.SlSortCmp.ReverseRange1
import Derived.Shelf.SlSortCmp.PartialInsertion1
import Derived.Shelf.SlSortCmp.PartitionEqual1
import Derived.Shelf.SlSortCmp.Partition1
import Derived.Shelf.SlSortCmp.Pdq1
import Derived.Shelf.SlSortCmp.Whole1
import Derived.Test.YtdbolfmmlmoiaaaProg
import Derived.WalkKit
import Derived.WalkLawsBesides
import Derived.Outline
import Derived.Deep.QuietTactic
import Derived.BigQuiet
import Derived.Deep.DeepCutAuto
import Derived.Deep.CutBlock
import Derived.Laws.Bits64b
import Derived.Test.YtdbolfmmlmoiaaaJ1
import Derived.Deep.RegionWith
import Derived.LoopTactic

namespace Go.Proofs.Ytdbolfmmlmoiaaa
open Go.RowKit Go.Proofs
set_option linter.unusedVariables false
set_option linter.unusedSimpArgs false
attribute [local go_sem ↓] Go.wp_at_zero Go.wp_at_succ
theorem own_block {v : Value} {w : World} {base m size : Nat} {e : TypeId} {xs : List Value} (h : w.ownsRow base e size v m xs) : ∃ a c, v = .slice a m c := by
  rcases h.2 with ⟨rfl, rfl⟩ | ⟨g, cap, cur, rfl, _⟩
  · exact ⟨none, 0, rfl⟩
  · exact ⟨_, _, rfl⟩
theorem misW (r : Nat → Nat) (b : Nat) (S : Mk) (hS : S.Good) (v : Int) (w : World) (h : Mdl r w b S) :
    Calls Try.prog 14 #[.pointer (some ⟨b, 0, none⟩), .int .i64 v] w fun e w' => e = .returned (.int .i64 (S.is v : Nat)) ∧ w = w' := by
  obtain ⟨vr, vv, R, t, _, _⟩ := h
  have c3 := t.c3
  obtain ⟨av, cv, hv⟩ := own_block t.vals
  rw [hv] at c3
  have e : Hid ((S.is v : Nat) = if 0 ≤ v ∧ v < (S.n : Int) then v.toNat else 0) := rfl
  generalize S.is v = I at *
  clear t hv
  by_cases h0 : v < 0
  · obtain rfl : I = 0 := by rw [e.out, if_neg (by omega)]
    go_enter Try.func14, Try.ntmps14
    go_wp2
    go_ret
    exact ⟨rfl, rfl⟩
  · by_cases h1 : v < (S.n : Int)
    · have hI : (I : Int) = v := by rw [e.out, if_pos ⟨by omega, h1⟩]; omega
      have h1' : ¬ (S.n : Int) ≤ v := by omega
      rw [hI]
      go_enter Try.func14, Try.ntmps14
      go_wp2
      go_ret
      exact ⟨rfl, rfl⟩
    · obtain rfl : I = 0 := by rw [e.out, if_neg (by omega)]
      have h1' : (S.n : Int) ≤ v := by omega
      go_enter Try.func14, Try.ntmps14
      go_wp2
      go_ret
      exact ⟨rfl, rfl⟩
set_option maxHeartbeats 4000000 in
theorem mfreshW (r : Nat → Nat) (b : Nat) (S : Mk) (hn : S.n ≤ 100000) (X : Nat) (hX : X < 18446744073709551616) (w : World) (h : Mdl r w b S) :
    Calls Try.prog 29 #[.pointer (some ⟨b, 0, none⟩), .int .u64 X] w fun e w' => e = .returned (.int .i64 (S.n : Nat)) ∧ After r w w' b (S.fresh (Ob.toG X)) := by
  obtain ⟨vr, vv, R, t, hS, hO⟩ := h
  have c3 := t.c3
  have hblt := t.blt
  have rX := rest_toG2 X
  have rX2 := rest_toG X
  obtain ⟨x, hx⟩ : ∃ x, Hid ((Ob.toG X).val = x) := ⟨_, rfl⟩
  rw [hx.out] at rX rX2
  have t1 : Hid (MdlP r (w.alloc (.cells #[.int .u64 (x : Nat)] 30)) b (S.n : Nat) (S.pub : Nat) vr vv S.m R S.n S.v) := t.below ((Below.refl _ _).alloc (Nat.le_refl _) _)
  have hc : Hid ((w.alloc (.cells #[.int .u64 (x : Nat)] 30)).cell? ⟨w.heap.size, 0, none⟩ = some (.int .u64 (x : Nat))) := by show _ = _; simp [go_sem]
  clear t hX
  go_enter Try.func29, Try.ntmps29
  go_upto_region 2 with (at_builtin; refine wpList_appVF rfl _ _ rfl vv S.n S.v rfl t1.out.vals w.heap.size x rfl hc.out (by omega) ?_; intro g cap w2 h1 h2 h3; have k1 : KeepO (fun k => r k = 3) (w.alloc (.cells #[.int .u64 (x : Nat)] 30)) w2 := KeepO.grown h2 t1.out.rv; have d3 : w2.cell? ⟨b, 3, none⟩ = some vv := k1.cell t1.out.c3 (by rw [t1.out.rb]; decide); have f3 : w2.frozen? ⟨b, 3, none⟩ = false := (k1.frozen t1.out.blt (by rw [t1.out.rb]; decide)).trans (t1.out.f 3 (by decide)))
  obtain ⟨s, ts, hs1, hs2, hs3⟩ := t1.out.pushV (w' := w2) h2 h1 (fun k hk => by
    have e : g = k := by simpa [Value.ownBlock] using hk
    rw [← e]; exact h3)
  have ts' : Hid (MdlP s (w2.setCell ⟨b, 3, none⟩ (.slice (some ⟨g, 0, none⟩) (S.n + 1) cap)) b (S.n : Nat) (S.pub : Nat) vr (.slice (some ⟨g, 0, none⟩) (S.n + 1) cap) S.m R (S.n + 1) (putN S.n x S.v)) := ts
  have hs1' : Hid (∀ k, s k ≠ 0 → r k ≠ 0 ∨ w.heap.size ≤ k) := fun k hk => (hs1 k hk).imp id fun h => by simp only [szs] at h; omega
  have hs2' : Hid (∀ k, r k ≠ 0 → s k = r k) := hs2
  have hs3' : Hid (KeepO (fun k => r k ≠ 0) w (w2.setCell ⟨b, 3, none⟩ (.slice (some ⟨g, 0, none⟩) (S.n + 1) cap))) := (KeepO.of_below (O := fun k => r k ≠ 0) ((Below.refl _ _).alloc (Nat.le_refl _) _)).trans hs3 fun _ _ h => h
  have hrb : Hid (r b = 1) := t1.out.rb
  clear h1 h2 h3 k1 d3 f3 ts hs1 hs2 hs3 t1 hc
  generalize w2.setCell ⟨b, 3, none⟩ (.slice (some ⟨g, 0, none⟩) (S.n + 1) cap) = W at *
  have d0 := ts'.out.c0
  have f0 := ts'.out.f 0 (by decide)
  go_upto_region 3 with (fail)
  have t2 : Hid (MdlP s (W.setCell ⟨b, 0, none⟩ (.int .i64 ((S.n : Int) + 1))) b ((S.n : Int) + 1) (S.pub : Nat) vr (.slice (some ⟨g, 0, none⟩) (S.n + 1) cap) S.m R (S.n + 1) (putN S.n x S.v)) := ts'.out.set0 _
  have hk : Hid (KeepO (fun k => r k ≠ 0) w (W.setCell ⟨b, 0, none⟩ (.int .i64 ((S.n : Int) + 1)))) := hs3'.out.trans (KeepO.setCell (O := fun k => r k ≠ 0) W b 0 _ (by rw [hrb.out]; decide)) fun _ _ h => h
  clear ts' d0 f0 hs3' hrb
  have e3 : W.setCell ⟨b, 0, none⟩ (.int .i64 ((S.n : Int) + 1)) = W.setCell ⟨b, 0, none⟩ (.int .i64 ((S.n : Int) + 1)) := rfl
  generalize W.setCell ⟨b, 0, none⟩ (.int .i64 ((S.n : Int) + 1)) = W2 at *
  clear e3
  have d3 := t2.out.c3
  go_wp2
  go_ret
  refine ⟨by simp, s, ⟨vr, .slice (some ⟨g, 0, none⟩) (S.n + 1) cap, R, ?_, ⟨hS.sum⟩, hO⟩, hs1'.out, hs2'.out, hk.out⟩
  have e : (S.fresh (Ob.toG X)).v = putN S.n x S.v := by rw [← hx.out]; rfl
  rw [e]
  exact t2.out
end Go.Proofs.Ytdbolfmmlmoiaaa

namespace Go.Proofs
open Go.Shelf
def Try.lays128_ren : Go.Shelf.Ren := ⟨fun | 128 => 92 | n => n, fun | 51 => 108 | 3 => 3 | 4 => 4 | 46 => 89 | 5 => 5 | 9 => 9 | n => n, fun | n => n⟩
theorem Try.lays128 : Go.Proofs.Lays.n128 Try.prog Try.lays128_ren := {
  mixed := by kernel_rfl
  f128 := Try.func92.trans (congrArg some (by kernel_rfl))
  t3 := Try.underlying3
  a3 := Try.isAgg3
  z3 := Try.sizeOf3
  v3 := Try.zeroValue3
  t4 := Try.underlying4
  a4 := Try.isAgg4
  z4 := Try.sizeOf4
  v4 := Try.zeroValue4
  t5 := Try.underlying5
  a5 := Try.isAgg5
  z5 := Try.sizeOf5
  v5 := Try.zeroValue5
  t9 := Try.underlying9
  a9 := Try.isAgg9
  z9 := Try.sizeOf9
  v9 := Try.zeroValue9
  t46 := Try.underlying89
  a46 := Try.isAgg89
  z46 := Try.sizeOf89
  v46 := Try.zeroValue89
  t51 := Try.underlying108
  a51 := Try.isAgg108
  z51 := Try.sizeOf108
  v51 := Try.zeroValue108 }
theorem Try.bits_Len32 (x : Int) (w : World) (h0 : 0 ≤ x) (h1 : x ≤ 4294967295) :
    Calls Try.prog 92 #[.int .u32 x] w fun e w' => e = .returned (.int .i64 (Lib.bitLen x.toNat)) ∧ w' = w := Any.bits_Len32 Try.lays128 x w h0 h1
def Try.lays125_ren : Go.Shelf.Ren := ⟨fun | 125 => 81 | 128 => 92 | 129 => 83 | n => n, fun | 46 => 89 | 3 => 3 | 51 => 108 | 53 => 30 | 4 => 4 | 5 => 5 | 9 => 9 | n => n, fun | n => n⟩
theorem Try.lays125 : Go.Proofs.Lays.n125 Try.prog Try.lays125_ren := {
  mixed := by kernel_rfl
  f125 := Try.func81.trans (congrArg some (by kernel_rfl))
  f128 := Try.func92.trans (congrArg some (by kernel_rfl))
  f129 := Try.func83.trans (congrArg some (by kernel_rfl))
  t3 := Try.underlying3
  a3 := Try.isAgg3
  z3 := Try.sizeOf3
  v3 := Try.zeroValue3
  t4 := Try.underlying4
  a4 := Try.isAgg4
  z4 := Try.sizeOf4
  v4 := Try.zeroValue4
  t5 := Try.underlying5
  a5 := Try.isAgg5
  z5 := Try.sizeOf5
  v5 := Try.zeroValue5
  t9 := Try.underlying9
  a9 := Try.isAgg9
  z9 := Try.sizeOf9
  v9 := Try.zeroValue9
  t46 := Try.underlying89
  a46 := Try.isAgg89
  z46 := Try.sizeOf89
  v46 := Try.zeroValue89
  t51 := Try.underlying108
  a51 := Try.isAgg108
  z51 := Try.sizeOf108
  v51 := Try.zeroValue108
  t53 := Try.underlying30
  a53 := Try.isAgg30
  z53 := Try.sizeOf30
  v53 := Try.zeroValue30 }
theorem Try.bits_Len (x : Int) (w : World) (h0 : 0 ≤ x) (h1 : x ≤ 18446744073709551615) :
    Calls Try.prog 81 #[.int .u64 x] w fun e w' => e = .returned (.int .i64 (Lib.bitLen x.toNat)) ∧ w' = w := Any.bits_Len Try.lays125 x w h0 h1
def Try.lays134_ren : Go.Shelf.Ren := ⟨fun | 134 => 79 | 129 => 83 | n => n, fun | 53 => 30 | 3 => 3 | 4 => 4 | 46 => 89 | 5 => 5 | 9 => 9 | n => n, fun | n => n⟩
theorem Try.lays134 : Go.Proofs.Lays.n134 Try.prog Try.lays134_ren := {
  mixed := by kernel_rfl
  f129 := Try.func83.trans (congrArg some (by kernel_rfl))
  f134 := Try.func79.trans (congrArg some (by kernel_rfl))
  t3 := Try.underlying3
  a3 := Try.isAgg3
  z3 := Try.sizeOf3
  v3 := Try.zeroValue3
  t4 := Try.underlying4
  a4 := Try.isAgg4
  z4 := Try.sizeOf4
  v4 := Try.zeroValue4
  t5 := Try.underlying5
  a5 := Try.isAgg5
  z5 := Try.sizeOf5
  v5 := Try.zeroValue5
  t9 := Try.underlying9
  a9 := Try.isAgg9
  z9 := Try.sizeOf9
  v9 := Try.zeroValue9
  t46 := Try.underlying89
  a46 := Try.isAgg89
  z46 := Try.sizeOf89
  v46 := Try.zeroValue89
  t53 := Try.underlying30
  a53 := Try.isAgg30
  z53 := Try.sizeOf30
  v53 := Try.zeroValue30 }
theorem Try.bits_LeadingZeros64 (x : Int) (w : World) (h0 : 0 ≤ x) (h1 : x ≤ 18446744073709551615) :
    Calls Try.prog 79 #[.int .u64 x] w fun e w' => e = .returned (.int .i64 (64 - (Lib.bitLen x.toNat : Int))) ∧ w' = w := Any.bits_LeadingZeros64 Try.lays134 x w h0 h1
def Try.lays215_ren : Go.Shelf.Ren := ⟨fun | 215 => 82 | n => n, fun | 3 => 3 | 4 => 4 | n => n, fun | n => n⟩
theorem Try.lays215 : Go.Proofs.Lays.n215 Try.prog Try.lays215_ren := {
  mixed := by kernel_rfl
  f215 := Try.func82.trans (congrArg some (by kernel_rfl))
  t3 := Try.underlying3
  a3 := Try.isAgg3
  z3 := Try.sizeOf3
  v3 := Try.zeroValue3
  t4 := Try.underlying4
  a4 := Try.isAgg4
  z4 := Try.sizeOf4
  v4 := Try.zeroValue4 }
open Go.RowKit in
theorem Try.cmp_isNaN_int (x : Int) (w : World) :
    Calls Try.prog 82 #[.int .i64 x] w fun e w' => e = .returned (.bool false) ∧ w' = w := Any.cmp_isNaN_int Try.lays215 x w
def Try.lays122_ren : Go.Shelf.Ren := ⟨fun | 122 => 78 | 215 => 82 | n => n, fun | 3 => 3 | 4 => 4 | n => n, fun | n => n⟩
theorem Try.lays122 : Go.Proofs.Lays.n122 Try.prog Try.lays122_ren := {
  mixed := by kernel_rfl
  f122 := Try.func78.trans (congrArg some (by kernel_rfl))
  f215 := Try.func82.trans (congrArg some (by kernel_rfl))
  t3 := Try.underlying3
  a3 := Try.isAgg3
  z3 := Try.sizeOf3
  v3 := Try.zeroValue3
  t4 := Try.underlying4
  a4 := Try.isAgg4
  z4 := Try.sizeOf4
  v4 := Try.zeroValue4 }
open Go.RowKit in
theorem Try.cmp_Compare_int (x y : Int) (w : World) :
    Calls Try.prog 78 #[.int .i64 x, .int .i64 y] w fun e w' => e = .returned (.int .i64 (Lib.compareInt x y)) ∧ w' = w := Any.cmp_Compare_int Try.lays122 x y w
def Try.lays129_ren : Go.Shelf.Ren := ⟨fun | 129 => 83 | n => n, fun | 53 => 30 | 3 => 3 | 4 => 4 | 46 => 89 | 5 => 5 | 9 => 9 | n => n, fun | n => n⟩
theorem Try.lays129 : Go.Proofs.Lays.n129 Try.prog Try.lays129_ren := {
  mixed := by kernel_rfl
  f129 := Try.func83.trans (congrArg some (by kernel_rfl))
  t3 := Try.underlying3
  a3 := Try.isAgg3
  z3 := Try.sizeOf3
  v3 := Try.zeroValue3
  t4 := Try.underlying4
  a4 := Try.isAgg4
  z4 := Try.sizeOf4
  v4 := Try.zeroValue4
  t5 := Try.underlying5
  a5 := Try.isAgg5
  z5 := Try.sizeOf5
  v5 := Try.zeroValue5
  t9 := Try.underlying9
  a9 := Try.isAgg9
  z9 := Try.sizeOf9
  v9 := Try.zeroValue9
  t46 := Try.underlying89
  a46 := Try.isAgg89
  z46 := Try.sizeOf89
  v46 := Try.zeroValue89
  t53 := Try.underlying30
  a53 := Try.isAgg30
  z53 := Try.sizeOf30
  v53 := Try.zeroValue30 }
theorem Try.bits_Len64 (x : Int) (w : World) (h0 : 0 ≤ x) (h1 : x ≤ 18446744073709551615) :
    Calls Try.prog 83 #[.int .u64 x] w fun e w' => e = .returned (.int .i64 (Lib.bitLen x.toNat)) ∧ w' = w := Any.bits_Len64 Try.lays129 x w h0 h1
def Try.lays264_ren : Go.Shelf.Ren := ⟨fun | 264 => 74 | n => n, fun | 53 => 30 | 46 => 89 | n => n, fun | n => n⟩
theorem Try.lays264 : Go.Proofs.Lays.n264 Try.prog Try.lays264_ren := {
  mixed := by kernel_rfl
  f264 := Try.func74.trans (congrArg some (by kernel_rfl))
  t46 := Try.underlying89
  a46 := Try.isAgg89
  z46 := Try.sizeOf89
  v46 := Try.zeroValue89
  t53 := Try.underlying30
  a53 := Try.isAgg30
  z53 := Try.sizeOf30
  v53 := Try.zeroValue30 }
open Go.RowKit Go.Lib in
theorem Try.bits_Mul64 (x y : Nat) (hx : x < 18446744073709551616) (hy : y < 18446744073709551616) (w : World) :
    Calls Try.prog 74 #[.int .u64 x, .int .u64 y] w fun e w' => e = .returned (.tuple #[.int .u64 ((x * y / 18446744073709551616 : Nat) : Int), .int .u64 ((x * y % 18446744073709551616 : Nat) : Int)]) ∧ w' = w := Any.bits_Mul64 Try.lays264 x y hx hy w
def Try.laysNm237_ren : Go.Shelf.Ren := ⟨fun | 37 => 82 | n => n, fun | 3 => 3 | 4 => 4 | n => n, fun | n => n⟩
theorem Try.laysNm237 : Go.Proofs.Lays2.n37 Try.prog Try.laysNm237_ren := {
  mixed := by kernel_rfl
  f37 := Try.func82.trans (congrArg some (by kernel_rfl))
  t3 := Try.underlying3
  a3 := Try.isAgg3
  z3 := Try.sizeOf3
  v3 := Try.zeroValue3
  t4 := Try.underlying4
  a4 := Try.isAgg4
  z4 := Try.sizeOf4
  v4 := Try.zeroValue4 }
open Go.RowKit Go.Lib in
theorem Try.cmp_isNaN_int2 (x : Int) (w : World) :
    Calls Try.prog 82 #[.int .i64 x] w fun e w' => e = .returned (.bool false) ∧ w' = w := Any.cmp_isNaN_int2 Try.laysNm237 x w
def Try.laysSlF20_f84_ren : Go.Shelf.Ren := ⟨fun | 20 => 84 | n => n, fun | 24 => 3 | 22 => 36 | 3 => 3 | 25 => 48 | 4 => 4 | 0 => 0 | n => n, fun | n => n⟩
theorem Try.laysSlF20_f84 : Go.Proofs.SlLaysF.n20 Try.prog Try.laysSlF20_f84_ren := {
  mixed := by kernel_rfl
  f20 := ⟨Try.f84.name, by decide, Try.func84.trans (congrArg some (by kernel_rfl))⟩
  t0 := Try.underlying0
  a0 := Try.isAgg0
  z0 := Try.sizeOf0
  v0 := Try.zeroValue0
  t3 := Try.underlying3
  a3 := Try.isAgg3
  z3 := Try.sizeOf3
  v3 := Try.zeroValue3
  t4 := Try.underlying4
  a4 := Try.isAgg4
  z4 := Try.sizeOf4
  v4 := Try.zeroValue4
  t22 := Try.underlying36
  a22 := Try.isAgg36
  z22 := Try.sizeOf36
  v22 := Try.zeroValue36
  a24 := Try.isAgg3
  z24 := Try.sizeOf3
  t25 := Try.underlying48
  a25 := Try.isAgg48
  z25 := Try.sizeOf48
  v25 := Try.zeroValue48 }
open Go.RowKit Go.Lib Go.Sort in
theorem Try.insertionSortCmpFunc_one {α : Type} [Inhabited α] (enc : α → Value) (hO : OneCell enc) (cf : α → α → Int) (g : Nat) (cb : Array Value) (blk off cap a b : Nat) (d : Array α) (w : World) (eg : ∀ args w, (callFunc g args).run Try.prog w = .ok (.enter g args) w) (hcmp : CmpReads Try.prog g cb enc cf blk off d.size w) (hH : Holds enc w blk off d) (hab : a ≤ b) (hb : b ≤ d.size) (hsz : d.size < 4611686018427387904) :
    Calls Try.prog 84 #[.slice (some ⟨blk, off, none⟩) d.size cap, .int .i64 a, .int .i64 b, .func (.func g) #[] cb] w fun e w' =>
      e = .returned (.tuple #[]) ∧ ∃ n, w' = (putRow enc w blk off (Sort.insertionSort (ltOf cf) d a b)).drewN n := Any.insertionSortCmpFunc_one Try.laysSlF20_f84 enc hO cf g cb blk off cap a b d w eg hcmp hH hab hb hsz
def Try.laysSlF46_f93_ren : Go.Shelf.Ren := ⟨fun | 46 => 93 | n => n, fun | 24 => 3 | 22 => 36 | 3 => 3 | 25 => 48 | 4 => 4 | 0 => 0 | n => n, fun | n => n⟩
theorem Try.laysSlF46_f93 : Go.Proofs.SlLaysF.n46 Try.prog Try.laysSlF46_f93_ren := {
  mixed := by kernel_rfl
  f46 := ⟨Try.f93.name, by decide, Try.func93.trans (congrArg some (by kernel_rfl))⟩
  t0 := Try.underlying0
  a0 := Try.isAgg0
  z0 := Try.sizeOf0
  v0 := Try.zeroValue0
  t3 := Try.underlying3
  a3 := Try.isAgg3
  z3 := Try.sizeOf3
  v3 := Try.zeroValue3
  t4 := Try.underlying4
  a4 := Try.isAgg4
  z4 := Try.sizeOf4
  v4 := Try.zeroValue4
  t22 := Try.underlying36
  a22 := Try.isAgg36
  z22 := Try.sizeOf36
  v22 := Try.zeroValue36
  a24 := Try.isAgg3
  z24 := Try.sizeOf3
  t25 := Try.underlying48
  a25 := Try.isAgg48
  z25 := Try.sizeOf48
  v25 := Try.zeroValue48 }
open Go.RowKit Go.Lib Go.Sort in
theorem Try.siftDownCmpFunc {α : Type} [Inhabited α] (enc : α → Value) (cf : α → α → Int) (g : Nat) (cb : Array Value) (blk off cap lo hi first : Nat) (d0 d : Array α) (w0 w : World) (eg : ∀ args w, (callFunc g args).run Try.prog w = .ok (.enter g args) w) (hcmp : CmpLays1 Try.prog g cb enc cf blk off d0.size w0) (R : Row1 enc w0 blk off d0) (hs : d0.size = d.size) (S : SW enc w0 blk off d w) (hlo : lo ≤ hi) (hb : first + hi ≤ d.size) (hsz : d.size < 4611686018427387904) :
    Calls Try.prog 93 #[.slice (some ⟨blk, off, none⟩) d.size cap, .int .i64 lo, .int .i64 hi, .int .i64 first, .func (.func g) #[] cb] w fun e w' =>
      e = .returned (.tuple #[]) ∧ SW enc w0 blk off (siftDown (ltOf cf) hi first lo d) w' := Any.siftDownCmpFunc Try.laysSlF46_f93 enc cf g cb blk off cap lo hi first d0 d w0 w eg hcmp R hs S hlo hb hsz
def Try.laysSlF21_f85_ren : Go.Shelf.Ren := ⟨fun | 21 => 85 | 46 => 93 | n => n, fun | 24 => 3 | 22 => 36 | 3 => 3 | 25 => 48 | 4 => 4 | 0 => 0 | n => n, fun | n => n⟩
theorem Try.laysSlF21_f85 : Go.Proofs.SlLaysF.n21 Try.prog Try.laysSlF21_f85_ren := {
  mixed := by kernel_rfl
  f21 := ⟨Try.f85.name, by decide, Try.func85.trans (congrArg some (by kernel_rfl))⟩
  f46 := ⟨Try.f93.name, by decide, Try.func93.trans (congrArg some (by kernel_rfl))⟩
  t0 := Try.underlying0
  a0 := Try.isAgg0
  z0 := Try.sizeOf0
  v0 := Try.zeroValue0
  t3 := Try.underlying3
  a3 := Try.isAgg3
  z3 := Try.sizeOf3
  v3 := Try.zeroValue3
  t4 := Try.underlying4
  a4 := Try.isAgg4
  z4 := Try.sizeOf4
  v4 := Try.zeroValue4
  t22 := Try.underlying36
  a22 := Try.isAgg36
  z22 := Try.sizeOf36
  v22 := Try.zeroValue36
  a24 := Try.isAgg3
  z24 := Try.sizeOf3
  t25 := Try.underlying48
  a25 := Try.isAgg48
  z25 := Try.sizeOf48
  v25 := Try.zeroValue48 }
open Go.RowKit Go.Lib Go.Sort in
theorem Try.heapSortCmpFunc {α : Type} [Inhabited α] (enc : α → Value) (cf : α → α → Int) (g : Nat) (cb : Array Value) (blk off cap a b : Nat) (d0 d : Array α) (w0 w : World) (eg : ∀ args w, (callFunc g args).run Try.prog w = .ok (.enter g args) w) (hcmp : CmpLays1 Try.prog g cb enc cf blk off d0.size w0) (R : Row1 enc w0 blk off d0) (hs : d0.size = d.size) (S : SW enc w0 blk off d w) (hab : a ≤ b) (hb : b ≤ d.size) (hsz : d.size < 4611686018427387904) :
    Calls Try.prog 85 #[.slice (some ⟨blk, off, none⟩) d.size cap, .int .i64 a, .int .i64 b, .func (.func g) #[] cb] w fun e w' =>
      e = .returned (.tuple #[]) ∧ SW enc w0 blk off (heapSort (ltOf cf) d a b) w' := Any.heapSortCmpFunc Try.laysSlF21_f85 enc cf g cb blk off cap a b d0 d w0 w eg hcmp R hs S hab hb hsz
open Go.RowKit Go.Lib Go.Sort in
theorem Try.insertionSortCmpFunc_s {α : Type} [Inhabited α] (enc : α → Value) (cf : α → α → Int) (g : Nat) (cb : Array Value) (blk off cap a b : Nat) (d0 d : Array α) (w0 w : World) (eg : ∀ args w, (callFunc g args).run Try.prog w = .ok (.enter g args) w) (hcmp : CmpLays1 Try.prog g cb enc cf blk off d0.size w0) (R : Row1 enc w0 blk off d0) (hs : d0.size = d.size) (S : SW enc w0 blk off d w) (hab : a ≤ b) (hb : b ≤ d.size) (hsz : d.size < 4611686018427387904) :
    Calls Try.prog 84 #[.slice (some ⟨blk, off, none⟩) d.size cap, .int .i64 a, .int .i64 b, .func (.func g) #[] cb] w fun e w' => e = .returned (.tuple #[]) ∧ SW enc w0 blk off (Sort.insertionSort (ltOf cf) d a b) w' := Any.insertionSortCmpFunc_s Try.laysSlF20_f84 enc cf g cb blk off cap a b d0 d w0 w eg hcmp R hs S hab hb hsz
def Try.laysSlF57_f98_ren : Go.Shelf.Ren := ⟨fun | 57 => 98 | n => n, fun | 24 => 3 | 22 => 36 | 3 => 3 | 70 => 113 | 25 => 48 | 0 => 0 | 4 => 4 | n => n, fun | n => n⟩
theorem Try.laysSlF57_f98 : Go.Proofs.SlLaysF.n57 Try.prog Try.laysSlF57_f98_ren := {
  mixed := by kernel_rfl
  f57 := ⟨Try.f98.name, by decide, Try.func98.trans (congrArg some (by kernel_rfl))⟩
  t0 := Try.underlying0
  a0 := Try.isAgg0
  z0 := Try.sizeOf0
  v0 := Try.zeroValue0
  t3 := Try.underlying3
  a3 := Try.isAgg3
  z3 := Try.sizeOf3
  v3 := Try.zeroValue3
  t4 := Try.underlying4
  a4 := Try.isAgg4
  z4 := Try.sizeOf4
  v4 := Try.zeroValue4
  t22 := Try.underlying36
  a22 := Try.isAgg36
  z22 := Try.sizeOf36
  v22 := Try.zeroValue36
  a24 := Try.isAgg3
  z24 := Try.sizeOf3
  t25 := Try.underlying48
  a25 := Try.isAgg48
  z25 := Try.sizeOf48
  v25 := Try.zeroValue48
  t70 := Try.underlying113
  a70 := Try.isAgg113
  z70 := Try.sizeOf113
  v70 := Try.zeroValue113 }
open Go.RowKit Go.Lib Go.Sort in
theorem Try.order2CmpFunc {α : Type} [Inhabited α] (enc : α → Value) (cf : α → α → Int) (g : Nat) (cb : Array Value) (blk off cap a b c s : Nat) (d0 d : Array α) (w0 W : World) (eg : ∀ args w, (callFunc g args).run Try.prog w = .ok (.enter g args) w) (hcmp : CmpLays1 Try.prog g cb enc cf blk off d0.size w0) (R : Row1 enc w0 blk off d0) (hs : d0.size = d.size) (C : Cnt1 enc w0 blk off d c s W) (ha : a < d.size) (hb : b < d.size) (hsz : d.size < 4611686018427387904) (hss : s < 4611686018427387904) :
    Calls Try.prog 98 #[.slice (some ⟨blk, off, none⟩) d.size cap, .int .i64 a, .int .i64 b, .pointer (some ⟨c, 0, none⟩), .func (.func g) #[] cb] W fun e w' =>
      e = .returned (.tuple #[.int .i64 (order2 (ltOf cf) d a b s).1, .int .i64 (order2 (ltOf cf) d a b s).2.1]) ∧ Cnt1 enc w0 blk off d c (order2 (ltOf cf) d a b s).2.2 w' := Any.order2CmpFunc Try.laysSlF57_f98 enc cf g cb blk off cap a b c s d0 d w0 W eg hcmp R hs C ha hb hsz hss
def Try.laysSlF50_f97_ren : Go.Shelf.Ren := ⟨fun | 50 => 97 | 57 => 98 | n => n, fun | 24 => 3 | 22 => 36 | 3 => 3 | 70 => 113 | 25 => 48 | 77 => 116 | 0 => 0 | 4 => 4 | n => n, fun | n => n⟩
theorem Try.laysSlF50_f97 : Go.Proofs.SlLaysF.n50 Try.prog Try.laysSlF50_f97_ren := {
  mixed := by kernel_rfl
  f50 := ⟨Try.f97.name, by decide, Try.func97.trans (congrArg some (by kernel_rfl))⟩
  f57 := ⟨Try.f98.name, by decide, Try.func98.trans (congrArg some (by kernel_rfl))⟩
  t0 := Try.underlying0
  a0 := Try.isAgg0
  z0 := Try.sizeOf0
  v0 := Try.zeroValue0
  t3 := Try.underlying3
  a3 := Try.isAgg3
  z3 := Try.sizeOf3
  v3 := Try.zeroValue3
  t4 := Try.underlying4
  a4 := Try.isAgg4
  z4 := Try.sizeOf4
  v4 := Try.zeroValue4
  t22 := Try.underlying36
  a22 := Try.isAgg36
  z22 := Try.sizeOf36
  v22 := Try.zeroValue36
  a24 := Try.isAgg3
  z24 := Try.sizeOf3
  t25 := Try.underlying48
  a25 := Try.isAgg48
  z25 := Try.sizeOf48
  v25 := Try.zeroValue48
  t70 := Try.underlying113
  a70 := Try.isAgg113
  z70 := Try.sizeOf113
  v70 := Try.zeroValue113
  t77 := Try.underlying116
  a77 := Try.isAgg116
  z77 := Try.sizeOf116
  v77 := Try.zeroValue116 }
open Go.RowKit Go.Lib Go.Sort in
theorem Try.medianCmpFunc {α : Type} [Inhabited α] (enc : α → Value) (cf : α → α → Int) (g : Nat) (cb : Array Value) (blk off cap a b c' c s : Nat) (d0 d : Array α) (w0 W : World) (eg : ∀ args w, (callFunc g args).run Try.prog w = .ok (.enter g args) w) (hcmp : CmpLays1 Try.prog g cb enc cf blk off d0.size w0) (R : Row1 enc w0 blk off d0) (hs : d0.size = d.size) (C : Cnt1 enc w0 blk off d c s W) (ha : a < d.size) (hb : b < d.size) (hc : c' < d.size) (hsz : d.size < 4611686018427387904) (hss : s + 3 < 4611686018427387904) :
    Calls Try.prog 97 #[.slice (some ⟨blk, off, none⟩) d.size cap, .int .i64 a, .int .i64 b, .int .i64 c', .pointer (some ⟨c, 0, none⟩), .func (.func g) #[] cb] W fun e w' =>
      e = .returned (.int .i64 (median (ltOf cf) d a b c' s).1) ∧ Cnt1 enc w0 blk off d c (median (ltOf cf) d a b c' s).2 w' := Any.medianCmpFunc Try.laysSlF50_f97 enc cf g cb blk off cap a b c' c s d0 d w0 W eg hcmp R hs C ha hb hc hsz hss
def Try.laysSlF49_f96_ren : Go.Shelf.Ren := ⟨fun | 49 => 96 | 50 => 97 | 57 => 98 | n => n, fun | 24 => 3 | 22 => 36 | 3 => 3 | 70 => 113 | 25 => 48 | 77 => 116 | 0 => 0 | 4 => 4 | n => n, fun | n => n⟩
theorem Try.laysSlF49_f96 : Go.Proofs.SlLaysF.n49 Try.prog Try.laysSlF49_f96_ren := {
  mixed := by kernel_rfl
  f49 := ⟨Try.f96.name, by decide, Try.func96.trans (congrArg some (by kernel_rfl))⟩
  f50 := ⟨Try.f97.name, by decide, Try.func97.trans (congrArg some (by kernel_rfl))⟩
  f57 := ⟨Try.f98.name, by decide, Try.func98.trans (congrArg some (by kernel_rfl))⟩
  t0 := Try.underlying0
  a0 := Try.isAgg0
  z0 := Try.sizeOf0
  v0 := Try.zeroValue0
  t3 := Try.underlying3
  a3 := Try.isAgg3
  z3 := Try.sizeOf3
  v3 := Try.zeroValue3
  t4 := Try.underlying4
  a4 := Try.isAgg4
  z4 := Try.sizeOf4
  v4 := Try.zeroValue4
  t22 := Try.underlying36
  a22 := Try.isAgg36
  z22 := Try.sizeOf36
  v22 := Try.zeroValue36
  a24 := Try.isAgg3
  z24 := Try.sizeOf3
  t25 := Try.underlying48
  a25 := Try.isAgg48
  z25 := Try.sizeOf48
  v25 := Try.zeroValue48
  t70 := Try.underlying113
  a70 := Try.isAgg113
  z70 := Try.sizeOf113
  v70 := Try.zeroValue113
  t77 := Try.underlying116
  a77 := Try.isAgg116
  z77 := Try.sizeOf116
  v77 := Try.zeroValue116 }
open Go.RowKit Go.Lib Go.Sort in
theorem Try.medianAdjacentCmpFunc {α : Type} [Inhabited α] (enc : α → Value) (cf : α → α → Int) (g : Nat) (cb : Array Value) (blk off cap a c s : Nat) (d0 d : Array α) (w0 W : World) (eg : ∀ args w, (callFunc g args).run Try.prog w = .ok (.enter g args) w) (hcmp : CmpLays1 Try.prog g cb enc cf blk off d0.size w0) (R : Row1 enc w0 blk off d0) (hs : d0.size = d.size) (C : Cnt1 enc w0 blk off d c s W) (ha1 : 1 ≤ a) (ha2 : a + 1 < d.size) (hsz : d.size < 4611686018427387904) (hss : s + 3 < 4611686018427387904) :
    Calls Try.prog 96 #[.slice (some ⟨blk, off, none⟩) d.size cap, .int .i64 a, .pointer (some ⟨c, 0, none⟩), .func (.func g) #[] cb] W fun e w' =>
      e = .returned (.int .i64 (medianAdjacent (ltOf cf) d a s).1) ∧ Cnt1 enc w0 blk off d c (medianAdjacent (ltOf cf) d a s).2 w' := Any.medianAdjacentCmpFunc Try.laysSlF49_f96 enc cf g cb blk off cap a c s d0 d w0 W eg hcmp R hs C ha1 ha2 hsz hss
def Try.laysSlF23_f87_ren : Go.Shelf.Ren := ⟨fun | 23 => 87 | 49 => 96 | 50 => 97 | 57 => 98 | n => n, fun | 24 => 3 | 22 => 36 | 3 => 3 | 25 => 48 | 45 => 100 | 0 => 0 | 4 => 4 | 70 => 113 | 77 => 116 | n => n, fun | n => n⟩
theorem Try.laysSlF23_f87 : Go.Proofs.SlLaysF.n23 Try.prog Try.laysSlF23_f87_ren := {
  mixed := by kernel_rfl
  f23 := ⟨Try.f87.name, by decide, Try.func87.trans (congrArg some (by kernel_rfl))⟩
  f49 := ⟨Try.f96.name, by decide, Try.func96.trans (congrArg some (by kernel_rfl))⟩
  f50 := ⟨Try.f97.name, by decide, Try.func97.trans (congrArg some (by kernel_rfl))⟩
  f57 := ⟨Try.f98.name, by decide, Try.func98.trans (congrArg some (by kernel_rfl))⟩
  t0 := Try.underlying0
  a0 := Try.isAgg0
  z0 := Try.sizeOf0
  v0 := Try.zeroValue0
  t3 := Try.underlying3
  a3 := Try.isAgg3
  z3 := Try.sizeOf3
  v3 := Try.zeroValue3
  t4 := Try.underlying4
  a4 := Try.isAgg4
  z4 := Try.sizeOf4
  v4 := Try.zeroValue4
  t22 := Try.underlying36
  a22 := Try.isAgg36
  z22 := Try.sizeOf36
  v22 := Try.zeroValue36
  a24 := Try.isAgg3
  z24 := Try.sizeOf3
  t25 := Try.underlying48
  a25 := Try.isAgg48
  z25 := Try.sizeOf48
  v25 := Try.zeroValue48
  t45 := Try.underlying100
  a45 := Try.isAgg100
  z45 := Try.sizeOf100
  v45 := Try.zeroValue100
  t70 := Try.underlying113
  a70 := Try.isAgg113
  z70 := Try.sizeOf113
  v70 := Try.zeroValue113
  t77 := Try.underlying116
  a77 := Try.isAgg116
  z77 := Try.sizeOf116
  v77 := Try.zeroValue116 }
open Go.RowKit Go.Lib Go.Sort in
theorem Try.choosePivotCmpFunc {α : Type} [Inhabited α] (enc : α → Value) (cf : α → α → Int) (g : Nat) (cb : Array Value) (blk off cap a b : Nat) (d0 d : Array α) (w0 W : World) (eg : ∀ args w, (callFunc g args).run Try.prog w = .ok (.enter g args) w) (hcmp : CmpLays1 Try.prog g cb enc cf blk off d0.size w0) (R : Row1 enc w0 blk off d0) (hs : d0.size = d.size) (S : SW enc w0 blk off d W) (hab : a < b) (hb : b ≤ d.size) (hsz : d.size < 4611686018427387904) :
    Calls Try.prog 87 #[.slice (some ⟨blk, off, none⟩) d.size cap, .int .i64 a, .int .i64 b, .func (.func g) #[] cb] W fun e w' =>
      e = .returned (.tuple #[.int .i64 (choosePivot (ltOf cf) d a b).1, .int .i64 (hintCode (choosePivot (ltOf cf) d a b).2)]) ∧ SW enc w0 blk off d w' := Any.choosePivotCmpFunc Try.laysSlF23_f87 enc cf g cb blk off cap a b d0 d w0 W eg hcmp R hs S hab hb hsz
def Try.laysSlF24_f88_ren : Go.Shelf.Ren := ⟨fun | 24 => 88 | n => n, fun | 24 => 3 | 22 => 36 | 3 => 3 | 25 => 48 | 4 => 4 | 0 => 0 | n => n, fun | n => n⟩
theorem Try.laysSlF24_f88 : Go.Proofs.SlLaysF.n24 Try.prog Try.laysSlF24_f88_ren := {
  mixed := by kernel_rfl
  f24 := ⟨Try.f88.name, by decide, Try.func88.trans (congrArg some (by kernel_rfl))⟩
  t0 := Try.underlying0
  a0 := Try.isAgg0
  z0 := Try.sizeOf0
  v0 := Try.zeroValue0
  t3 := Try.underlying3
  a3 := Try.isAgg3
  z3 := Try.sizeOf3
  v3 := Try.zeroValue3
  t4 := Try.underlying4
  a4 := Try.isAgg4
  z4 := Try.sizeOf4
  v4 := Try.zeroValue4
  t22 := Try.underlying36
  a22 := Try.isAgg36
  z22 := Try.sizeOf36
  v22 := Try.zeroValue36
  a24 := Try.isAgg3
  z24 := Try.sizeOf3
  t25 := Try.underlying48
  a25 := Try.isAgg48
  z25 := Try.sizeOf48
  v25 := Try.zeroValue48 }
open Go.RowKit Go.Lib Go.Sort in
theorem Try.reverseRangeCmpFunc {α : Type} [Inhabited α] (enc : α → Value) (g : Nat) (cb : Array Value) (blk off cap a b : Nat) (d0 d : Array α) (w0 w : World) (R : Row1 enc w0 blk off d0) (hs : d0.size = d.size) (S : SW enc w0 blk off d w) (hab : a ≤ b) (hb : b ≤ d.size) (hsz : d.size < 4611686018427387904) :
    Calls Try.prog 88 #[.slice (some ⟨blk, off, none⟩) d.size cap, .int .i64 a, .int .i64 b, .func (.func g) #[] cb] w fun e w' => e = .returned (.tuple #[]) ∧ SW enc w0 blk off (reverseRange d a b) w' := Any.reverseRangeCmpFunc Try.laysSlF24_f88 enc g cb blk off cap a b d0 d w0 w R hs S hab hb hsz
def Try.laysSlF25_f89_ren : Go.Shelf.Ren := ⟨fun | 25 => 89 | n => n, fun | 24 => 3 | 22 => 36 | 3 => 3 | 25 => 48 | 4 => 4 | 0 => 0 | n => n, fun | n => n⟩
theorem Try.laysSlF25_f89 : Go.Proofs.SlLaysF.n25 Try.prog Try.laysSlF25_f89_ren := {
  mixed := by kernel_rfl
  f25 := ⟨Try.f89.name, by decide, Try.func89.trans (congrArg some (by kernel_rfl))⟩
  t0 := Try.underlying0
  a0 := Try.isAgg0
  z0 := Try.sizeOf0
  v0 := Try.zeroValue0
  t3 := Try.underlying3
  a3 := Try.isAgg3
  z3 := Try.sizeOf3
  v3 := Try.zeroValue3
  t4 := Try.underlying4
  a4 := Try.isAgg4
  z4 := Try.sizeOf4
  v4 := Try.zeroValue4
  t22 := Try.underlying36
  a22 := Try.isAgg36
  z22 := Try.sizeOf36
  v22 := Try.zeroValue36
  a24 := Try.isAgg3
  z24 := Try.sizeOf3
  t25 := Try.underlying48
  a25 := Try.isAgg48
  z25 := Try.sizeOf48
  v25 := Try.zeroValue48 }
open Go.RowKit Go.Lib Go.Sort in
theorem Try.partialInsertionSortCmpFunc {α : Type} [Inhabited α] (enc : α → Value) (cf : α → α → Int) (g : Nat) (cb : Array Value) (blk off cap a b : Nat) (d0 d : Array α) (w0 w : World) (eg : ∀ args w, (callFunc g args).run Try.prog w = .ok (.enter g args) w) (hcmp : CmpLays1 Try.prog g cb enc cf blk off d0.size w0) (R : Row1 enc w0 blk off d0) (hs : d0.size = d.size) (S : SW enc w0 blk off d w) (hab : a < b) (hb : b ≤ d.size) (hsz : d.size < 4611686018427387904) :
    Calls Try.prog 89 #[.slice (some ⟨blk, off, none⟩) d.size cap, .int .i64 a, .int .i64 b, .func (.func g) #[] cb] w fun e w' =>
      e = .returned (.bool (Sort.partialInsertionSort (ltOf cf) d a b).2) ∧ SW enc w0 blk off (Sort.partialInsertionSort (ltOf cf) d a b).1 w' := Any.partialInsertionSortCmpFunc Try.laysSlF25_f89 enc cf g cb blk off cap a b d0 d w0 w eg hcmp R hs S hab hb hsz
def Try.laysSlF26_f90_ren : Go.Shelf.Ren := ⟨fun | 26 => 90 | n => n, fun | 24 => 3 | 22 => 36 | 3 => 3 | 25 => 48 | 0 => 0 | 4 => 4 | n => n, fun | n => n⟩
theorem Try.laysSlF26_f90 : Go.Proofs.SlLaysF.n26 Try.prog Try.laysSlF26_f90_ren := {
  mixed := by kernel_rfl
  f26 := ⟨Try.f90.name, by decide, Try.func90.trans (congrArg some (by kernel_rfl))⟩
  t0 := Try.underlying0
  a0 := Try.isAgg0
  z0 := Try.sizeOf0
  v0 := Try.zeroValue0
  t3 := Try.underlying3
  a3 := Try.isAgg3
  z3 := Try.sizeOf3
  v3 := Try.zeroValue3
  t4 := Try.underlying4
  a4 := Try.isAgg4
  z4 := Try.sizeOf4
  v4 := Try.zeroValue4
  t22 := Try.underlying36
  a22 := Try.isAgg36
  z22 := Try.sizeOf36
  v22 := Try.zeroValue36
  a24 := Try.isAgg3
  z24 := Try.sizeOf3
  t25 := Try.underlying48
  a25 := Try.isAgg48
  z25 := Try.sizeOf48
  v25 := Try.zeroValue48 }
open Go.RowKit Go.Lib Go.Sort in
theorem Try.partitionEqualCmpFunc {α : Type} [Inhabited α] (enc : α → Value) (cf : α → α → Int) (g : Nat) (cb : Array Value) (blk off cap a b pivot : Nat) (d0 d : Array α) (w0 w : World) (eg : ∀ args w, (callFunc g args).run Try.prog w = .ok (.enter g args) w) (hcmp : CmpLays1 Try.prog g cb enc cf blk off d0.size w0) (R : Row1 enc w0 blk off d0) (hs : d0.size = d.size) (S : SW enc w0 blk off d w) (hap : a ≤ pivot) (hpb : pivot < b) (hb : b ≤ d.size) (hsz : d.size < 4611686018427387904) :
    Calls Try.prog 90 #[.slice (some ⟨blk, off, none⟩) d.size cap, .int .i64 a, .int .i64 b, .int .i64 pivot, .func (.func g) #[] cb] w fun e w' =>
      e = .returned (.int .i64 (Sort.partitionEqual (ltOf cf) d a b pivot).1) ∧ SW enc w0 blk off (Sort.partitionEqual (ltOf cf) d a b pivot).2 w' := Any.partitionEqualCmpFunc Try.laysSlF26_f90 enc cf g cb blk off cap a b pivot d0 d w0 w eg hcmp R hs S hap hpb hb hsz
def Try.laysSlF27_f91_ren : Go.Shelf.Ren := ⟨fun | 27 => 91 | n => n, fun | 24 => 3 | 22 => 36 | 3 => 3 | 25 => 48 | 4 => 4 | 0 => 0 | n => n, fun | n => n⟩
theorem Try.laysSlF27_f91 : Go.Proofs.SlLaysF.n27 Try.prog Try.laysSlF27_f91_ren := {
  mixed := by kernel_rfl
  f27 := ⟨Try.f91.name, by decide, Try.func91.trans (congrArg some (by kernel_rfl))⟩
  t0 := Try.underlying0
  a0 := Try.isAgg0
  z0 := Try.sizeOf0
  v0 := Try.zeroValue0
  t3 := Try.underlying3
  a3 := Try.isAgg3
  z3 := Try.sizeOf3
  v3 := Try.zeroValue3
  t4 := Try.underlying4
  a4 := Try.isAgg4
  z4 := Try.sizeOf4
  v4 := Try.zeroValue4
  t22 := Try.underlying36
  a22 := Try.isAgg36
  z22 := Try.sizeOf36
  v22 := Try.zeroValue36
  a24 := Try.isAgg3
  z24 := Try.sizeOf3
  t25 := Try.underlying48
  a25 := Try.isAgg48
  z25 := Try.sizeOf48
  v25 := Try.zeroValue48 }
open Go.RowKit Go.Lib Go.Sort in
theorem Try.partitionCmpFunc {α : Type} [Inhabited α] (enc : α → Value) (cf : α → α → Int) (g : Nat) (cb : Array Value) (blk off cap a b pivot : Nat) (d0 d : Array α) (w0 w : World) (eg : ∀ args w, (callFunc g args).run Try.prog w = .ok (.enter g args) w) (hcmp : CmpLays1 Try.prog g cb enc cf blk off d0.size w0) (R : Row1 enc w0 blk off d0) (hs : d0.size = d.size) (S : SW enc w0 blk off d w) (hap : a ≤ pivot) (hpb : pivot < b) (hb : b ≤ d.size) (hsz : d.size < 4611686018427387904) :
    Calls Try.prog 91 #[.slice (some ⟨blk, off, none⟩) d.size cap, .int .i64 a, .int .i64 b, .int .i64 pivot, .func (.func g) #[] cb] w fun e w' =>
      e = .returned (.tuple #[.int .i64 (Sort.partition (ltOf cf) d a b pivot).1, .bool (Sort.partition (ltOf cf) d a b pivot).2.1]) ∧ SW enc w0 blk off (Sort.partition (ltOf cf) d a b pivot).2.2 w' := Any.partitionCmpFunc Try.laysSlF27_f91 enc cf g cb blk off cap a b pivot d0 d w0 w eg hcmp R hs S hap hpb hb hsz
def Try.laysSlF14_f80_ren : Go.Shelf.Ren := ⟨fun | 14 => 80 | 20 => 84 | 21 => 85 | 22 => 86 | 23 => 87 | 24 => 88 | 25 => 89 | 26 => 90 | 27 => 91 | 46 => 93 | 47 => 94 | 48 => 95 | 49 => 96 | 50 => 97 | 15 => 81 | 57 => 98 | 28 => 92 | 29 => 83 | n => n, fun | 24 => 3 | 22 => 36 | 3 => 3 | 25 => 48 | 4 => 4 | 0 => 0 | 46 => 101 | 45 => 100 | 50 => 105 | 66 => 109 | 39 => 89 | 55 => 30 | 70 => 113 | 76 => 115 | 77 => 116 | 53 => 108 | 5 => 5 | 9 => 9 | n => n, fun | n => n⟩
theorem Try.laysSlF14_f80 : Go.Proofs.SlLaysF.n14 Try.prog Try.laysSlF14_f80_ren := {
  mixed := by kernel_rfl
  f14 := ⟨Try.f80.name, by decide, Try.func80.trans (congrArg some (by kernel_rfl))⟩
  f15 := Try.func81.trans (congrArg some (by kernel_rfl))
  f20 := ⟨Try.f84.name, by decide, Try.func84.trans (congrArg some (by kernel_rfl))⟩
  f21 := ⟨Try.f85.name, by decide, Try.func85.trans (congrArg some (by kernel_rfl))⟩
  f22 := ⟨Try.f86.name, by decide, Try.func86.trans (congrArg some (by kernel_rfl))⟩
  f23 := ⟨Try.f87.name, by decide, Try.func87.trans (congrArg some (by kernel_rfl))⟩
  f24 := ⟨Try.f88.name, by decide, Try.func88.trans (congrArg some (by kernel_rfl))⟩
  f25 := ⟨Try.f89.name, by decide, Try.func89.trans (congrArg some (by kernel_rfl))⟩
  f26 := ⟨Try.f90.name, by decide, Try.func90.trans (congrArg some (by kernel_rfl))⟩
  f27 := ⟨Try.f91.name, by decide, Try.func91.trans (congrArg some (by kernel_rfl))⟩
  f28 := Try.func92.trans (congrArg some (by kernel_rfl))
  f29 := Try.func83.trans (congrArg some (by kernel_rfl))
  f46 := ⟨Try.f93.name, by decide, Try.func93.trans (congrArg some (by kernel_rfl))⟩
  f47 := Try.func94.trans (congrArg some (by kernel_rfl))
  f48 := Try.func95.trans (congrArg some (by kernel_rfl))
  f49 := ⟨Try.f96.name, by decide, Try.func96.trans (congrArg some (by kernel_rfl))⟩
  f50 := ⟨Try.f97.name, by decide, Try.func97.trans (congrArg some (by kernel_rfl))⟩
  f57 := ⟨Try.f98.name, by decide, Try.func98.trans (congrArg some (by kernel_rfl))⟩
  t0 := Try.underlying0
  a0 := Try.isAgg0
  z0 := Try.sizeOf0
  v0 := Try.zeroValue0
  t3 := Try.underlying3
  a3 := Try.isAgg3
  z3 := Try.sizeOf3
  v3 := Try.zeroValue3
  t4 := Try.underlying4
  a4 := Try.isAgg4
  z4 := Try.sizeOf4
  v4 := Try.zeroValue4
  t5 := Try.underlying5
  a5 := Try.isAgg5
  z5 := Try.sizeOf5
  v5 := Try.zeroValue5
  t9 := Try.underlying9
  a9 := Try.isAgg9
  z9 := Try.sizeOf9
  v9 := Try.zeroValue9
  t22 := Try.underlying36
  a22 := Try.isAgg36
  z22 := Try.sizeOf36
  v22 := Try.zeroValue36
  a24 := Try.isAgg3
  z24 := Try.sizeOf3
  t25 := Try.underlying48
  a25 := Try.isAgg48
  z25 := Try.sizeOf48
  v25 := Try.zeroValue48
  t39 := Try.underlying89
  a39 := Try.isAgg89
  z39 := Try.sizeOf89
  v39 := Try.zeroValue89
  t45 := Try.underlying100
  a45 := Try.isAgg100
  z45 := Try.sizeOf100
  v45 := Try.zeroValue100
  t46 := Try.underlying101
  a46 := Try.isAgg101
  z46 := Try.sizeOf101
  v46 := Try.zeroValue101
  t50 := Try.underlying105
  a50 := Try.isAgg105
  z50 := Try.sizeOf105
  v50 := Try.zeroValue105
  t53 := Try.underlying108
  a53 := Try.isAgg108
  z53 := Try.sizeOf108
  v53 := Try.zeroValue108
  t55 := Try.underlying30
  a55 := Try.isAgg30
  z55 := Try.sizeOf30
  v55 := Try.zeroValue30
  t66 := Try.underlying109
  a66 := Try.isAgg109
  z66 := Try.sizeOf109
  v66 := Try.zeroValue109
  t70 := Try.underlying113
  a70 := Try.isAgg113
  z70 := Try.sizeOf113
  v70 := Try.zeroValue113
  t76 := Try.underlying115
  a76 := Try.isAgg115
  z76 := Try.sizeOf115
  v76 := Try.zeroValue115
  t77 := Try.underlying116
  a77 := Try.isAgg116
  z77 := Try.sizeOf116
  v77 := Try.zeroValue116 }
open Go.RowKit Go.Lib Go.Sort in
theorem Try.pdqsortCmpFunc_all {α : Type} [Inhabited α] (enc : α → Value) (cf : α → α → Int) (g : Nat) (cb : Array Value) (hO : SWO (ltOf cf)) (blk off cap : Nat) (d0 : Array α) (w0 : World) (eg : ∀ args w, (callFunc g args).run Try.prog w = .ok (.enter g args) w) (hcmp : CmpLays1 Try.prog g cb enc cf blk off d0.size w0) (R : Row1 enc w0 blk off d0) :
    ∀ (N a b limit : Nat) (d : Array α) (w : World), b - a < N → d0.size = d.size → SW enc w0 blk off d w → a ≤ b → b ≤ d.size → d.size < 4611686018427387904 → limit < 4611686018427387904 → Below (ltOf cf) a b d →
    Calls Try.prog 80 #[.slice (some ⟨blk, off, none⟩) d.size cap, .int .i64 a, .int .i64 b, .int .i64 limit, .func (.func g) #[] cb] w fun e w' => e = .returned (.tuple #[]) ∧ SW enc w0 blk off (pdq (ltOf cf) d a b limit true true) w' := Any.pdqsortCmpFunc_all Try.laysSlF14_f80 enc cf g cb hO blk off cap d0 w0 eg hcmp R
def Try.laysSlF6_f76_ren : Go.Shelf.Ren := ⟨fun | 6 => 76 | 15 => 81 | 14 => 80 | 28 => 92 | 29 => 83 | 20 => 84 | 21 => 85 | 22 => 86 | 23 => 87 | 24 => 88 | 25 => 89 | 26 => 90 | 27 => 91 | 46 => 93 | 47 => 94 | 48 => 95 | 49 => 96 | 50 => 97 | 57 => 98 | n => n, fun | 22 => 36 | 24 => 3 | 25 => 48 | 3 => 3 | 39 => 89 | 0 => 0 | 53 => 108 | 55 => 30 | 4 => 4 | 46 => 101 | 45 => 100 | 50 => 105 | 5 => 5 | 9 => 9 | 66 => 109 | 70 => 113 | 76 => 115 | 77 => 116 | n => n, fun | n => n⟩
theorem Try.laysSlF6_f76 : Go.Proofs.SlLaysF.n6 Try.prog Try.laysSlF6_f76_ren := {
  mixed := by kernel_rfl
  f6 := ⟨Try.f76.name, by decide, Try.func76.trans (congrArg some (by kernel_rfl))⟩
  f14 := ⟨Try.f80.name, by decide, Try.func80.trans (congrArg some (by kernel_rfl))⟩
  f15 := Try.func81.trans (congrArg some (by kernel_rfl))
  f20 := ⟨Try.f84.name, by decide, Try.func84.trans (congrArg some (by kernel_rfl))⟩
  f21 := ⟨Try.f85.name, by decide, Try.func85.trans (congrArg some (by kernel_rfl))⟩
  f22 := ⟨Try.f86.name, by decide, Try.func86.trans (congrArg some (by kernel_rfl))⟩
  f23 := ⟨Try.f87.name, by decide, Try.func87.trans (congrArg some (by kernel_rfl))⟩
  f24 := ⟨Try.f88.name, by decide, Try.func88.trans (congrArg some (by kernel_rfl))⟩
  f25 := ⟨Try.f89.name, by decide, Try.func89.trans (congrArg some (by kernel_rfl))⟩
  f26 := ⟨Try.f90.name, by decide, Try.func90.trans (congrArg some (by kernel_rfl))⟩
  f27 := ⟨Try.f91.name, by decide, Try.func91.trans (congrArg some (by kernel_rfl))⟩
  f28 := Try.func92.trans (congrArg some (by kernel_rfl))
  f29 := Try.func83.trans (congrArg some (by kernel_rfl))
  f46 := ⟨Try.f93.name, by decide, Try.func93.trans (congrArg some (by kernel_rfl))⟩
  f47 := Try.func94.trans (congrArg some (by kernel_rfl))
  f48 := Try.func95.trans (congrArg some (by kernel_rfl))
  f49 := ⟨Try.f96.name, by decide, Try.func96.trans (congrArg some (by kernel_rfl))⟩
  f50 := ⟨Try.f97.name, by decide, Try.func97.trans (congrArg some (by kernel_rfl))⟩
  f57 := ⟨Try.f98.name, by decide, Try.func98.trans (congrArg some (by kernel_rfl))⟩
  t0 := Try.underlying0
  a0 := Try.isAgg0
  z0 := Try.sizeOf0
  v0 := Try.zeroValue0
  t3 := Try.underlying3
  a3 := Try.isAgg3
  z3 := Try.sizeOf3
  v3 := Try.zeroValue3
  t4 := Try.underlying4
  a4 := Try.isAgg4
  z4 := Try.sizeOf4
  v4 := Try.zeroValue4
  t5 := Try.underlying5
  a5 := Try.isAgg5
  z5 := Try.sizeOf5
  v5 := Try.zeroValue5
  t9 := Try.underlying9
  a9 := Try.isAgg9
  z9 := Try.sizeOf9
  v9 := Try.zeroValue9
  t22 := Try.underlying36
  a22 := Try.isAgg36
  z22 := Try.sizeOf36
  v22 := Try.zeroValue36
  a24 := Try.isAgg3
  z24 := Try.sizeOf3
  t25 := Try.underlying48
  a25 := Try.isAgg48
  z25 := Try.sizeOf48
  v25 := Try.zeroValue48
  t39 := Try.underlying89
  a39 := Try.isAgg89
  z39 := Try.sizeOf89
  v39 := Try.zeroValue89
  t45 := Try.underlying100
  a45 := Try.isAgg100
  z45 := Try.sizeOf100
  v45 := Try.zeroValue100
  t46 := Try.underlying101
  a46 := Try.isAgg101
  z46 := Try.sizeOf101
  v46 := Try.zeroValue101
  t50 := Try.underlying105
  a50 := Try.isAgg105
  z50 := Try.sizeOf105
  v50 := Try.zeroValue105
  t53 := Try.underlying108
  a53 := Try.isAgg108
  z53 := Try.sizeOf108
  v53 := Try.zeroValue108
  t55 := Try.underlying30
  a55 := Try.isAgg30
  z55 := Try.sizeOf30
  v55 := Try.zeroValue30
  t66 := Try.underlying109
  a66 := Try.isAgg109
  z66 := Try.sizeOf109
  v66 := Try.zeroValue109
  t70 := Try.underlying113
  a70 := Try.isAgg113
  z70 := Try.sizeOf113
  v70 := Try.zeroValue113
  t76 := Try.underlying115
  a76 := Try.isAgg115
  z76 := Try.sizeOf115
  v76 := Try.zeroValue115
  t77 := Try.underlying116
  a77 := Try.isAgg116
  z77 := Try.sizeOf116
  v77 := Try.zeroValue116 }
open Go.RowKit Go.Lib Go.Sort in
theorem Try.slices_SortFunc_eq {α : Type} [Inhabited α] (enc : α → Value) (h1 : OneCell enc) (cf : α → α → Int) (hO : SWO (ltOf cf)) (g : Nat) (cb : Array Value) (blk off cap : Nat) (d : Array α) (w : World) (eg : ∀ args w, (callFunc g args).run Try.prog w = .ok (.enter g args) w) (hcmp : CmpLays1 Try.prog g cb enc cf blk off d.size w) (hH : Holds enc w blk off d) (hblk : blk < w.heap.size) (hsz : d.size < 4611686018427387904) :
    Calls Try.prog 76 #[.slice (some ⟨blk, off, none⟩) d.size cap, .func (.func g) #[] cb] w fun e w' =>
      e = .returned (.tuple #[]) ∧ ∃ n os, w' = sortWorld enc w blk off n (pdq (ltOf cf) d 0 d.size (Lib.bitLen d.size) true true) os := Any.slices_SortFunc_eq Try.laysSlF6_f76 enc h1 cf hO g cb blk off cap d w eg hcmp hH hblk hsz
open Go.RowKit Go.Lib Go.Sort in
theorem Try.slices_SortFunc {α : Type} [Inhabited α] (enc : α → Value) (h1 : OneCell enc) (cf : α → α → Int) (hO : SWO (ltOf cf)) (g : Nat) (cb : Array Value) (blk off cap : Nat) (d : Array α) (w : World) (eg : ∀ args w, (callFunc g args).run Try.prog w = .ok (.enter g args) w) (hcmp : CmpLays1 Try.prog g cb enc cf blk off d.size w) (hH : Holds enc w blk off d) (hblk : blk < w.heap.size) (hsz : d.size < 4611686018427387904) :
    Calls Try.prog 76 #[.slice (some ⟨blk, off, none⟩) d.size cap, .func (.func g) #[] cb] w fun e w' =>
      e = .returned (.tuple #[]) ∧ ∃ d' n os, PermIn 0 d.size d d' ∧ SortedIn (ltOf cf) 0 d.size d' ∧ w' = sortWorld enc w blk off n d' os := Any.slices_SortFunc Try.laysSlF6_f76 enc h1 cf hO g cb blk off cap d w eg hcmp hH hblk hsz
end Go.Proofs

namespace Ob

abbrev B32 : Nat := 4294967296
abbrev B64 : Nat := 18446744073709551616

/-- The true digit is below B. -/
theorem dig_lt (u v d : Nat) (hu : u < v) (hd : d < B32) : (u * B32 + d) / v < B32 := by
  have hv : 0 < v := by omega
  rw [Nat.div_lt_iff_lt_mul hv]
  have : (u + 1) * B32 ≤ v * B32 := Nat.mul_le_mul_right _ hu
  have e : (u + 1) * B32 = u * B32 + B32 := Nat.succ_mul u B32
  rw [Nat.mul_comm B32 v]
  omega

/-- The first guess is at least the digit. -/
theorem dig_le_first (u v1 v0 d : Nat) (hv1 : 0 < v1) (hd : d < B32) : (u * B32 + d) / (v1 * B32 + v0) ≤ u / v1 := by
  rw [Nat.le_div_iff_mul_le hv1]
  have h1 := Nat.div_mul_le_self (u * B32 + d) (v1 * B32 + v0)
  generalize (u * B32 + d) / (v1 * B32 + v0) = q at h1 ⊢
  have e : q * (v1 * B32 + v0) = (q * v1) * B32 + q * v0 := by rw [Nat.mul_add, Nat.mul_assoc]
  rw [e] at h1
  generalize q * v1 = t at h1 ⊢
  generalize q * v0 = z at h1
  simp only [B32] at h1 hd
  omega

/-- The first guess is at most two too great. -/
theorem first_le (u v1 v0 : Nat) (hu : u < v1 * B32 + v0) (hv0 : v0 < B32) (hv1 : 2147483648 ≤ v1) : u / v1 ≤ B32 + 1 := by
  have : u / v1 < B32 + 2 := by
    rw [Nat.div_lt_iff_lt_mul (by omega)]
    have e : (B32 + 2) * v1 = v1 * B32 + 2 * v1 := by rw [Nat.add_mul, Nat.mul_comm]
    rw [e]
    simp only [B32] at *
    omega
  omega

theorem dig_id (u v1 v0 d qh rh : Nat) (e : u = qh * v1 + rh) : qh * (v1 * B32 + v0) + (B32 * rh + d) = u * B32 + d + qh * v0 := by
  rw [e, Nat.mul_add, Nat.add_mul, ← Nat.mul_assoc]
  generalize qh * v1 = t
  generalize qh * v0 = z
  simp only [B32]
  omega

/-- What fits is at most the digit. -/
theorem dig_fits (u v1 v0 d qh rh : Nat) (hv1 : 0 < v1) (e : u = qh * v1 + rh) (h : qh * v0 ≤ B32 * rh + d) : qh ≤ (u * B32 + d) / (v1 * B32 + v0) := by
  rw [Nat.le_div_iff_mul_le (by simp only [B32]; omega)]
  have := dig_id u v1 v0 d qh rh e
  omega

/-- What does not fit is above the digit. -/
theorem dig_over (u v1 v0 d qh rh : Nat) (hv1 : 0 < v1) (e : u = qh * v1 + rh) (h : B32 * rh + d < qh * v0) : (u * B32 + d) / (v1 * B32 + v0) < qh := by
  rw [Nat.div_lt_iff_lt_mul (by simp only [B32]; omega)]
  have := dig_id u v1 v0 d qh rh e
  omega

/-- Behind the break it fits. -/
theorem dig_break (v0 d qh rh : Nat) (hq : qh ≤ B32) (hv0 : v0 < B32) (hr : B32 ≤ rh) : qh * v0 ≤ B32 * rh + d := by
  have h1 : qh * v0 ≤ B32 * B32 := Nat.mul_le_mul hq (by omega)
  have h2 : B32 * B32 ≤ B32 * rh := Nat.mul_le_mul_left _ hr
  omega

/-- The loop's relation over one digit. -/
def Dig (u v1 v0 d qh rh : Nat) : Prop := u = qh * v1 + rh ∧ (u * B32 + d) / (v1 * B32 + v0) ≤ qh ∧ qh ≤ B32 + 1 ∧ rh < B32

theorem Dig.first (u v1 v0 d : Nat) (hv1 : 2147483648 ≤ v1) (hv1' : v1 < B32) (hv0 : v0 < B32) (hd : d < B32) (hu : u < v1 * B32 + v0) : Dig u v1 v0 d (u / v1) (u - u / v1 * v1) := by
  have h1 := Nat.div_add_mod' u v1
  have h2 := Nat.mod_lt u (show 0 < v1 by omega)
  refine ⟨by omega, dig_le_first u v1 v0 d (by omega) hd, first_le u v1 v0 hu hv0 hv1, by omega⟩

theorem dig_lower {u v1 qh rh : Nat} (e : u = qh * v1 + rh) (h : 0 < qh) : u = (qh - 1) * v1 + (rh + v1) := by
  obtain ⟨k, rfl⟩ : ∃ k, qh = k + 1 := ⟨qh - 1, by omega⟩
  rw [Nat.succ_mul] at e
  simp only [Nat.add_sub_cancel]
  omega

theorem Dig.above {u v1 v0 d qh rh : Nat} (h : Dig u v1 v0 d qh rh) (hv1 : 2147483648 ≤ v1) (hd : d < B32) (hu : u < v1 * B32 + v0) (c : B32 ≤ qh ∨ B32 * rh + d < qh * v0) :
    (u * B32 + d) / (v1 * B32 + v0) < qh := by
  obtain ⟨e, h1, h2, h3⟩ := h
  rcases c with c | c
  · exact Nat.lt_of_lt_of_le (dig_lt u (v1 * B32 + v0) d hu hd) c
  · exact dig_over u v1 v0 d qh rh (by omega) e c

/-- One round that goes on. -/
theorem Dig.next {u v1 v0 d qh rh : Nat} (h : Dig u v1 v0 d qh rh) (hv1 : 2147483648 ≤ v1) (hd : d < B32) (hu : u < v1 * B32 + v0) (c : B32 ≤ qh ∨ B32 * rh + d < qh * v0) (hr : rh + v1 < B32) :
    Dig u v1 v0 d (qh - 1) (rh + v1) ∧ 0 < qh := by
  have lt := h.above hv1 hd hu c
  obtain ⟨e, h1, h2, h3⟩ := h
  have hp : 0 < qh := Nat.lt_of_le_of_lt (Nat.zero_le _) lt
  exact ⟨⟨dig_lower e hp, Nat.le_sub_one_of_lt lt, Nat.le_trans (Nat.sub_le _ _) h2, hr⟩, hp⟩

/-- One round that breaks off: it is the digit. -/
theorem Dig.broke {u v1 v0 d qh rh : Nat} (h : Dig u v1 v0 d qh rh) (hv1 : 2147483648 ≤ v1) (hv0 : v0 < B32) (hd : d < B32) (hu : u < v1 * B32 + v0) (c : B32 ≤ qh ∨ B32 * rh + d < qh * v0) (hr : B32 ≤ rh + v1) :
    qh - 1 = (u * B32 + d) / (v1 * B32 + v0) ∧ 0 < qh := by
  have lt := h.above hv1 hd hu c
  obtain ⟨e, h1, h2, h3⟩ := h
  have hp : 0 < qh := Nat.lt_of_le_of_lt (Nat.zero_le _) lt
  have := dig_fits u v1 v0 d (qh - 1) (rh + v1) (by omega) (dig_lower e hp) (dig_break v0 d (qh - 1) (rh + v1) (by omega) hv0 hr)
  exact ⟨Nat.le_antisymm this (Nat.le_sub_one_of_lt lt), hp⟩

/-- The loop's end by its test: it is the digit. -/
theorem Dig.done {u v1 v0 d qh rh : Nat} (h : Dig u v1 v0 d qh rh) (hv1 : 2147483648 ≤ v1) (c : qh * v0 ≤ B32 * rh + d) :
    qh = (u * B32 + d) / (v1 * B32 + v0) := by
  obtain ⟨e, h1, h2, h3⟩ := h
  exact Nat.le_antisymm (dig_fits u v1 v0 d qh rh (by omega) e c) h1

theorem two_digits_at (u v d1 d0 B : Nat) (hv : 0 < v) :
    (u * (B * B) + (d1 * B + d0)) / v = (u * B + d1) / v * B + ((u * B + d1) % v * B + d0) / v ∧
    (u * (B * B) + (d1 * B + d0)) % v = ((u * B + d1) % v * B + d0) % v := by
  have h1 := Nat.div_add_mod' (u * B + d1) v
  generalize (u * B + d1) / v = q1 at h1 ⊢
  generalize (u * B + d1) % v = r1 at h1 ⊢
  have e : u * (B * B) + (d1 * B + d0) = (r1 * B + d0) + v * (q1 * B) := by
    have e1 : (u * B + d1) * B = u * (B * B) + d1 * B := by rw [Nat.add_mul, Nat.mul_assoc]
    have e2 : (q1 * v + r1) * B = v * (q1 * B) + r1 * B := by rw [Nat.add_mul, Nat.mul_comm q1 v, Nat.mul_assoc]
    rw [← Nat.add_assoc, ← e1, ← h1, e2]
    omega
  rw [e, Nat.add_mul_div_left _ _ hv, Nat.add_mul_mod_self_left]
  exact ⟨Nat.add_comm _ _, rfl⟩

/-- Two digits, one behind the other. -/
theorem two_digits (u v d1 d0 : Nat) (hv : 0 < v) :
    (u * B64 + (d1 * B32 + d0)) / v = (u * B32 + d1) / v * B32 + ((u * B32 + d1) % v * B32 + d0) / v ∧
    (u * B64 + (d1 * B32 + d0)) % v = ((u * B32 + d1) % v * B32 + d0) % v :=
  two_digits_at u v d1 d0 B32 hv

/-- Shifted by s (K is 2^s, L is 2^(64-s)): the upper word and the lower one. -/
theorem shifted (hi lo K L : Nat) (hKL : K * L = B64) : (hi * K + lo / L) * B64 + lo * K % B64 = (hi * B64 + lo) * K := by
  have hL : 0 < L := by
    rcases Nat.eq_zero_or_pos L with h | h
    · subst h; simp [B64] at hKL
    · exact h
  have hK : 0 < K := by
    rcases Nat.eq_zero_or_pos K with h | h
    · subst h; simp [B64] at hKL
    · exact h
  have h1 := Nat.div_add_mod' lo L
  have h2 := Nat.mod_lt lo hL
  generalize lo / L = a at *
  generalize lo % L = b at *
  have h3 : lo * K = a * B64 + b * K := by
    rw [← h1, Nat.add_mul, Nat.mul_assoc, Nat.mul_comm L K, hKL]
  have h4 : b * K < B64 := by
    rw [← hKL, Nat.mul_comm K L]
    exact Nat.mul_lt_mul_of_pos_right h2 hK
  have h5 : lo * K % B64 = b * K := by
    rw [h3, Nat.mul_comm a B64, Nat.mul_add_mod, Nat.mod_eq_of_lt h4]
  rw [h5, Nat.add_mul, Nat.add_mul, h3, Nat.mul_right_comm]
  omega

theorem shifted_div (N y K : Nat) (hK : 0 < K) : N * K / (y * K) = N / y ∧ N * K % (y * K) / K = N % y := by
  refine ⟨Nat.mul_div_mul_right N y hK, ?_⟩
  rw [Nat.mul_mod_mul_right, Nat.mul_div_cancel _ hK]

/-- The whole of it: out of the two digits of the shifted numbers. -/
theorem div64_whole (hi lo y K L : Nat) (hKL : K * L = B64) (hy : 0 < y)
    (u d1 d0 q1 r1 q0 : Nat) (hu : u = hi * K + lo / L) (hd : d1 * B32 + d0 = lo * K % B64)
    (h1 : q1 = (u * B32 + d1) / (y * K)) (hr1 : r1 = (u * B32 + d1) % (y * K)) (h0 : q0 = (r1 * B32 + d0) / (y * K)) :
    q1 * B32 + q0 = (hi * B64 + lo) / y ∧ (r1 * B32 + d0) % (y * K) / K = (hi * B64 + lo) % y := by
  have hK : 0 < K := by
    rcases Nat.eq_zero_or_pos K with h | h
    · subst h; simp [B64] at hKL
    · exact h
  have hv : 0 < y * K := Nat.mul_pos hy hK
  have t := two_digits u (y * K) d1 d0 hv
  rw [hd, hu, shifted hi lo K L hKL, ← hu, ← h1, ← hr1, ← h0] at t
  have s := shifted_div (hi * B64 + lo) y K hK
  exact ⟨by rw [← t.1, s.1], by rw [← t.2, s.2]⟩

end Ob

namespace Go.Proofs.Ytdbolfmmlmoiaaa
open Go.RowKit Go.Proofs
set_option linter.unusedVariables false

theorem wrapNat (a : Nat) (h : a < 18446744073709551616) : IntKind.u64.wrap (a : Int) = (a : Int) := by rw [IntKind.wrap_u64]; omega

theorem wrapNatDiv (a b : Nat) (h : a < 18446744073709551616) : IntKind.u64.wrap ((a : Int) / (b : Int)) = ((a / b : Nat) : Int) := by
  rw [← Int.natCast_ediv]
  exact wrapNat _ (Nat.lt_of_le_of_lt (Nat.div_le_self _ _) h)

set_option maxHeartbeats 400000 in
theorem div64_low (lo y : Nat) (w : World) (hl : lo < 18446744073709551616) (hy : y < 18446744073709551616) (h0 : 0 < y) :
    Calls Try.prog 75 #[.int .u64 0, .int .u64 lo, .int .u64 y] w fun e w' => e = .returned (.tuple #[.int .u64 ((lo / y : Nat) : Int), .int .u64 ((lo % y : Nat) : Int)]) ∧ ∃ n, w' = w.drewN n := by
  go_enter Try.func75, Try.ntmps75
  go_wp2
  go_quiet (fail)
  go_wp2
  go_ret2
  exact ⟨by rw [wrapNatDiv lo y hl]; simp, _, rfl⟩

theorem val_int {k : IntKind} {a b : Int} (h : a = b) : Value.int k a = .int k b := by rw [h]

theorem mul_small (a b : Nat) (ha : a < 4294967296) (hb : b < 4294967296) : ∃ z : Nat, Hid (z = a * b) ∧ IntKind.u64.wrap ((a : Int) * (b : Int)) = (z : Int) := by
  refine ⟨a * b, rfl, ?_⟩
  rw [← Int.natCast_mul]
  refine wrapNat _ ?_
  have : a * b ≤ 4294967295 * 4294967295 := Nat.mul_le_mul (by omega) (by omega)
  omega

theorem dig_broke {u v1 v0 d qh rh q : Nat} (h : Ob.Dig u v1 v0 d qh rh) (hv1 : 2147483648 ≤ v1) (hv0 : v0 < 4294967296) (hd : d < 4294967296) (hu : u < v1 * Ob.B32 + v0) (c : Ob.B32 ≤ qh ∨ Ob.B32 * rh + d < qh * v0) (hr : (4294967296 : Int) ≤ (rh : Int) + (v1 : Int))
    (hq : q = (u * Ob.B32 + d) / (v1 * Ob.B32 + v0)) : Hid ((qh : Int) - 1 = (q : Int)) := by
  have := h.broke hv1 hv0 hd hu c (by simp only [Ob.B32]; omega)
  rw [← hq] at this
  show (qh : Int) - 1 = (q : Int)
  omega

set_option maxRecDepth 4000 in
set_option maxHeartbeats 1000000 in
theorem div64_core (hi lo y s u v v1 v0 t d1 d0 : Nat) (w : World) (hl : lo < 18446744073709551616) (hy : y < 18446744073709551616) (h0 : 0 < hi) (h1 : hi < y)
    (hs : s < 64)
    (hlz : ∀ w, Calls Try.prog 79 #[.int .u64 y] w fun e w' => e = .returned (.int .i64 s) ∧ w = w')
    (e1 : IntKind.u64.wrap ((y : Int) * 2 ^ s) = (v : Int)) (e2 : (v : Int) / 4294967296 = (v1 : Int)) (e3 : bits .and .u64 (v : Int) 4294967295 = (v0 : Int))
    (e4 : bits .or .u64 (IntKind.u64.wrap ((hi : Int) * 2 ^ s)) ((lo : Int) / 2 ^ (64 - s)) = (u : Int))
    (e5 : IntKind.u64.wrap ((lo : Int) * 2 ^ s) = (t : Int)) (e6 : (t : Int) / 4294967296 = (d1 : Int)) (e7 : bits .and .u64 (t : Int) 4294967295 = (d0 : Int))
    (hv1 : 2147483648 ≤ v1) (hv1' : v1 < 4294967296) (hv0 : v0 < 4294967296) (hd1 : d1 < 4294967296) (hd0 : d0 < 4294967296)
    (hu : u < 18446744073709551616)
    (huv : Hid (u < v1 * Ob.B32 + v0))
    (qf rf : Nat) (hqf : qf ≤ 4294967297) (hrf : rf < 4294967296) (f1 : (u : Int) / (v1 : Int) = (qf : Int)) (f2 : IntKind.u64.wrap ((u : Int) - IntKind.u64.wrap ((qf : Int) * (v1 : Int))) = rf) (hfirst : Hid (Ob.Dig u v1 v0 d1 qf rf))
    (q1 r1 : Nat) (hq1 : Hid (q1 = (u * Ob.B32 + d1) / (v1 * Ob.B32 + v0))) (hr1 : r1 < 18446744073709551616) (huv2 : Hid (r1 < v1 * Ob.B32 + v0))
    (g1 : IntKind.u64.wrap (IntKind.u64.wrap (IntKind.u64.wrap ((u : Int) * 4294967296) + (d1 : Int)) - IntKind.u64.wrap ((q1 : Int) * (v : Int))) = (r1 : Int))
    (qg rg : Nat) (hqg : qg ≤ 4294967297) (hrg : rg < 4294967296) (g2 : (r1 : Int) / (v1 : Int) = (qg : Int)) (g3 : IntKind.u64.wrap ((r1 : Int) - IntKind.u64.wrap ((qg : Int) * (v1 : Int))) = rg) (hfirst2 : Hid (Ob.Dig r1 v1 v0 d0 qg rg))
    (q0 r0 : Nat) (hq0 : Hid (q0 = (r1 * Ob.B32 + d0) / (v1 * Ob.B32 + v0))) (hr0 : r0 < 18446744073709551616)
    (Q R : Nat) (k1 : IntKind.u64.wrap (IntKind.u64.wrap ((q1 : Int) * 4294967296) + (q0 : Int)) = (Q : Int))
    (k2 : IntKind.u64.wrap (IntKind.u64.wrap (IntKind.u64.wrap ((r1 : Int) * 4294967296) + (d0 : Int)) - IntKind.u64.wrap ((q0 : Int) * (v : Int))) = (r0 : Int))
    (k3 : (r0 : Int) / 2 ^ s = (R : Int)) :
    Calls Try.prog 75 #[.int .u64 hi, .int .u64 lo, .int .u64 y] w fun e w' => e = .returned (.tuple #[.int .u64 Q, .int .u64 R]) ∧ w' = w := by
  go_enter Try.func75, Try.ntmps75
  go_upto_block 0 with (go_at_call 79; refine (hlz _).mono ?_; rintro e w' ⟨rfl, rfl⟩)
  clear hlz e1 e2 e3 e4 e5 e6 e7 f1 f2
  go_cut [15, 16] (fun q _ w1 => q = .int .u64 q1 ∧ w1 = w)
  case first =>
    go_wp2
    go_loop [15, 16] (fun q r => ∃ qh rh : Nat, qh ≤ 4294967297 ∧ rh < 4294967296 ∧ q = .int .u64 qh ∧ r = .int .u64 rh ∧ Hid (Ob.Dig u v1 v0 d1 qh rh)) (fun q _ => (intOf q).toNat)
    case atStart => exact ⟨qf, rf, hqf, hrf, rfl, rfl, hfirst⟩
    case round =>
      clear g1 g2 g3 k1 k2 k3 hr1 hr0 hfirst hfirst2 hqf hrf hqg hrg hl hy hu hq0 huv2
      obtain ⟨qh, rh, hqh, hrh, rfl, rfl, hD⟩ := hrel
      by_cases c1 : 4294967296 ≤ qh
      · have c1i : ¬ ((qh : Int) < 4294967296) := by omega
        have c1j : (4294967296 : Int) ≤ (qh : Int) := by omega
        by_cases c3 : (4294967296 : Int) ≤ (rh : Int) + (v1 : Int)
        · have c3i : ¬ ((rh : Int) + (v1 : Int) < 4294967296) := by omega
          have hb : Hid ((qh : Int) - 1 = (q1 : Int)) := dig_broke hD.out hv1 hv0 hd1 huv.out (Or.inl c1) (by omega) hq1.out
          clear c1
          go_wp2
          go_meet
          case rel => exact ⟨val_int hb.out, rfl⟩
        · have c3i : (rh : Int) + (v1 : Int) < 4294967296 := by omega
          have hb := hD.out.next hv1 hd1 huv.out (Or.inl c1) (by simp only [Ob.B32]; omega)
          have hN : Hid (Ob.Dig u v1 v0 d1 (qh - 1) (rh + v1)) := hb.1
          clear c1 hb
          go_wp2
          go_round
          case rel => exact ⟨qh - 1, rh + v1, by omega, by omega, by go_num, by go_num, hN⟩
          case measure => simp [intOf]; omega
      · have c1i : (qh : Int) < 4294967296 := by omega
        have c1j : ¬ ((4294967296 : Int) ≤ (qh : Int)) := by omega
        obtain ⟨z, hz, hm⟩ := mul_small qh v0 (by omega) hv0
        by_cases c2 : 4294967296 * (rh : Int) + (d1 : Int) < (z : Int)
        · have c2' : Ob.B32 ≤ qh ∨ Ob.B32 * rh + d1 < qh * v0 := Or.inr (by have := hz.out; simp only [Ob.B32]; omega)
          by_cases c3 : (4294967296 : Int) ≤ (rh : Int) + (v1 : Int)
          · have c3i : ¬ ((rh : Int) + (v1 : Int) < 4294967296) := by omega
            have hb : Hid ((qh : Int) - 1 = (q1 : Int)) := dig_broke hD.out hv1 hv0 hd1 huv.out c2' (by omega) hq1.out
            have hp : 0 < qh := (hD.out.broke hv1 hv0 hd1 huv.out c2' (by simp only [Ob.B32]; omega)).2
            clear c1 c2'
            go_wp2
            go_meet
            case rel => exact ⟨val_int hb.out, rfl⟩
          · have c3i : (rh : Int) + (v1 : Int) < 4294967296 := by omega
            have hb := hD.out.next hv1 hd1 huv.out c2' (by simp only [Ob.B32]; omega)
            have hN : Hid (Ob.Dig u v1 v0 d1 (qh - 1) (rh + v1)) := hb.1
            have hp : 0 < qh := hb.2
            clear c1 c2' hb
            go_wp2
            go_round
            case rel => exact ⟨qh - 1, rh + v1, by omega, by omega, by go_num, by go_num, hN⟩
            case measure => simp [intOf]; omega
        · have hb : Hid ((qh : Int) = (q1 : Int)) := by
            have := hD.out.done hv1 (by have := hz.out; simp only [Ob.B32]; omega)
            rw [← hq1.out] at this
            exact congrArg Int.ofNat this
          clear c1
          go_wp2
          go_meet
          case rel => exact ⟨val_int hb.out, rfl⟩
  case rest =>
    obtain ⟨rfl, rfl⟩ := hcut
    clear hfirst hqf hrf
    go_upto_block 2 with fail
    clear g1 g2 g3
    go_cut [18, 16] (fun q _ w1 => q = .int .u64 q0 ∧ w1 = wc)
    case first =>
      go_wp2
      go_loop [18, 16] (fun q r => ∃ qh rh : Nat, qh ≤ 4294967297 ∧ rh < 4294967296 ∧ q = .int .u64 qh ∧ r = .int .u64 rh ∧ Hid (Ob.Dig r1 v1 v0 d0 qh rh)) (fun q _ => (intOf q).toNat)
      case atStart => exact ⟨qg, rg, hqg, hrg, rfl, rfl, hfirst2⟩
      case round =>
        clear k1 k2 k3 hr0 hfirst2 hqg hrg hl hy hu hq1 huv hr1
        obtain ⟨qh, rh, hqh, hrh, rfl, rfl, hD⟩ := hrel
        by_cases c1 : 4294967296 ≤ qh
        · have c1i : ¬ ((qh : Int) < 4294967296) := by omega
          have c1j : (4294967296 : Int) ≤ (qh : Int) := by omega
          by_cases c3 : (4294967296 : Int) ≤ (rh : Int) + (v1 : Int)
          · have c3i : ¬ ((rh : Int) + (v1 : Int) < 4294967296) := by omega
            have hb : Hid ((qh : Int) - 1 = (q0 : Int)) := dig_broke hD.out hv1 hv0 hd0 huv2.out (Or.inl c1) (by omega) hq0.out
            clear c1
            go_wp2
            go_meet
            case rel => exact ⟨val_int hb.out, rfl⟩
          · have c3i : (rh : Int) + (v1 : Int) < 4294967296 := by omega
            have hb := hD.out.next hv1 hd0 huv2.out (Or.inl c1) (by simp only [Ob.B32]; omega)
            have hN : Hid (Ob.Dig r1 v1 v0 d0 (qh - 1) (rh + v1)) := hb.1
            clear c1 hb
            go_wp2
            go_round
            case rel => exact ⟨qh - 1, rh + v1, by omega, by omega, by go_num, by go_num, hN⟩
            case measure => simp [intOf]; omega
        · have c1i : (qh : Int) < 4294967296 := by omega
          have c1j : ¬ ((4294967296 : Int) ≤ (qh : Int)) := by omega
          obtain ⟨z, hz, hm⟩ := mul_small qh v0 (by omega) hv0
          by_cases c2 : 4294967296 * (rh : Int) + (d0 : Int) < (z : Int)
          · have c2' : Ob.B32 ≤ qh ∨ Ob.B32 * rh + d0 < qh * v0 := Or.inr (by have := hz.out; simp only [Ob.B32]; omega)
            by_cases c3 : (4294967296 : Int) ≤ (rh : Int) + (v1 : Int)
            · have c3i : ¬ ((rh : Int) + (v1 : Int) < 4294967296) := by omega
              have hb : Hid ((qh : Int) - 1 = (q0 : Int)) := dig_broke hD.out hv1 hv0 hd0 huv2.out c2' (by omega) hq0.out
              have hp : 0 < qh := (hD.out.broke hv1 hv0 hd0 huv2.out c2' (by simp only [Ob.B32]; omega)).2
              clear c1 c2'
              go_wp2
              go_meet
              case rel => exact ⟨val_int hb.out, rfl⟩
            · have c3i : (rh : Int) + (v1 : Int) < 4294967296 := by omega
              have hb := hD.out.next hv1 hd0 huv2.out c2' (by simp only [Ob.B32]; omega)
              have hN : Hid (Ob.Dig r1 v1 v0 d0 (qh - 1) (rh + v1)) := hb.1
              have hp : 0 < qh := hb.2
              clear c1 c2' hb
              go_wp2
              go_round
              case rel => exact ⟨qh - 1, rh + v1, by omega, by omega, by go_num, by go_num, hN⟩
              case measure => simp [intOf]; omega
          · have hb : Hid ((qh : Int) = (q0 : Int)) := by
              have := hD.out.done hv1 (by have := hz.out; simp only [Ob.B32]; omega)
              rw [← hq0.out] at this
              exact congrArg Int.ofNat this
            clear c1
            go_wp2
            go_meet
            case rel => exact ⟨val_int hb.out, rfl⟩
    case rest =>
      obtain ⟨rfl, rfl⟩ := hcut
      go_wp2
      go_ret2
      exact ⟨rfl, rfl⟩

theorem bitLenAux_bounds : ∀ (f x : Nat), x < 2 ^ f → x ≠ 0 → 1 ≤ Lib.bitLenAux f x ∧ Lib.bitLenAux f x ≤ f ∧ 2 ^ (Lib.bitLenAux f x - 1) ≤ x ∧ x < 2 ^ Lib.bitLenAux f x
  | 0, x, hx, h0 => by simp at hx; exact absurd hx h0
  | f + 1, x, hx, h0 => by
    simp only [Lib.bitLenAux, if_neg h0]
    by_cases h1 : x / 2 = 0
    · have e : Lib.bitLenAux f (x / 2) = 0 := by rw [h1]; cases f <;> simp [Lib.bitLenAux]
      rw [e]
      have : x = 1 := by omega
      subst this
      simp
    · have ih := bitLenAux_bounds f (x / 2) (by rw [Nat.pow_succ] at hx; omega) h1
      generalize Lib.bitLenAux f (x / 2) = b at ih ⊢
      obtain ⟨c, rfl⟩ : ∃ c, b = c + 1 := ⟨b - 1, by omega⟩
      have e1 : 2 ^ (1 + (c + 1) - 1) = 2 ^ c * 2 := by rw [← Nat.pow_succ]; congr 1; omega
      have e2 : 2 ^ (1 + (c + 1)) = 2 ^ (c + 1) * 2 := by rw [← Nat.pow_succ]; congr 1; omega
      rw [e1, e2]
      simp only [Nat.add_sub_cancel] at ih
      omega

/-- How far y is shifted, and that it then has its highest bit. -/
theorem shift_of (y : Nat) (hy : y < 18446744073709551616) (h0 : 0 < y) : ∃ s K L : Nat, s < 64 ∧ K = 2 ^ s ∧ L = 2 ^ (64 - s) ∧ K * L = Ob.B64 ∧ 9223372036854775808 ≤ y * K ∧ y * K < Ob.B64 ∧
    (64 : Int) - (Lib.bitLen y : Int) = (s : Int) := by
  obtain ⟨b1, b2, b3, b4⟩ := bitLenAux_bounds 64 y hy (by omega)
  change 1 ≤ Lib.bitLen y at b1
  change Lib.bitLen y ≤ 64 at b2
  change 2 ^ (Lib.bitLen y - 1) ≤ y at b3
  change y < 2 ^ Lib.bitLen y at b4
  generalize Lib.bitLen y = b at b1 b2 b3 b4 ⊢
  have hpos : 0 < 2 ^ (64 - b) := Nat.two_pow_pos _
  refine ⟨64 - b, 2 ^ (64 - b), 2 ^ (64 - (64 - b)), by omega, rfl, rfl, ?_, ?_, ?_, by omega⟩
  · rw [← Nat.pow_add]
    have : 64 - b + (64 - (64 - b)) = 64 := by omega
    rw [this]
  · have h := Nat.mul_le_mul_right (2 ^ (64 - b)) b3
    rw [← Nat.pow_add] at h
    have e : b - 1 + (64 - b) = 63 := by omega
    rw [e] at h
    exact h
  · have h := Nat.mul_lt_mul_of_pos_right b4 hpos
    rw [← Nat.pow_add] at h
    have e : b + (64 - b) = 64 := by omega
    rw [e] at h
    exact h

theorem mask32 (a : Nat) (ha : a < 18446744073709551616) : bits .and .u64 (a : Int) 4294967295 = ((a % 4294967296 : Nat) : Int) := by
  have h := bits_and_u64_nat a 4294967295 ha (by omega)
  have e : a &&& 4294967295 = a % 4294967296 := Nat.and_two_pow_sub_one_eq_mod a 32
  rw [e] at h
  exact h

theorem wrapMod (a : Nat) : IntKind.u64.wrap (a : Int) = ((a % 18446744073709551616 : Nat) : Int) := by rw [IntKind.wrap_u64]; omega

/-- A difference that is reckoned with wraps, and that is at least 0 and small. -/
theorem wrap_rest (u d q v r : Nat) (hr : r < 18446744073709551616) (h : u * 4294967296 + d = q * v + r) :
    IntKind.u64.wrap (IntKind.u64.wrap (IntKind.u64.wrap ((u : Int) * 4294967296) + (d : Int)) - IntKind.u64.wrap ((q : Int) * (v : Int))) = (r : Int) := by
  have e1 : (u : Int) * 4294967296 = ((u * 4294967296 : Nat) : Int) := by simp
  rw [e1, ← Int.natCast_mul]
  generalize q * v = z at h ⊢
  generalize u * 4294967296 = x at h ⊢
  simp only [IntKind.wrap_u64]
  omega

theorem first_rest (u v1 : Nat) (hu : u < 18446744073709551616) : IntKind.u64.wrap ((u : Int) - IntKind.u64.wrap (((u / v1 : Nat) : Int) * (v1 : Int))) = ((u - u / v1 * v1 : Nat) : Int) := by
  have h := Nat.div_mul_le_self u v1
  rw [← Int.natCast_mul]
  generalize u / v1 * v1 = z at h ⊢
  simp only [IntKind.wrap_u64]
  omega

theorem div64_high (hi lo y : Nat) (w : World) (hl : lo < 18446744073709551616) (hy : y < 18446744073709551616) (h0 : 0 < hi) (h1 : hi < y) :
    Calls Try.prog 75 #[.int .u64 hi, .int .u64 lo, .int .u64 y] w fun e w' => e = .returned (.tuple #[.int .u64 (((hi * Ob.B64 + lo) / y : Nat) : Int), .int .u64 (((hi * Ob.B64 + lo) % y : Nat) : Int)]) ∧ w' = w := by
  obtain ⟨s, K, L, hs, hK, hL, hKL, hlo, hhi, hb⟩ := shift_of y hy (by omega)
  have hKp : 0 < K := by rw [hK]; exact Nat.two_pow_pos _
  have hLp : 0 < L := by rw [hL]; exact Nat.two_pow_pos _
  have hKi : (2 : Int) ^ s = (K : Int) := by rw [hK]; exact (Int.natCast_pow 2 s).symm
  have hLi : (2 : Int) ^ (64 - s) = (L : Int) := by rw [hL]; exact (Int.natCast_pow 2 (64 - s)).symm
  -- the shifted divisor, and its two digits
  obtain ⟨v, hv⟩ : ∃ v, v = y * K := ⟨_, rfl⟩
  obtain ⟨u, hu⟩ : ∃ u, u = hi * K + lo / L := ⟨_, rfl⟩
  obtain ⟨t, ht⟩ : ∃ t, t = lo * K % Ob.B64 := ⟨_, rfl⟩
  have hvd : v / Ob.B32 * Ob.B32 + v % Ob.B32 = v := Nat.div_add_mod' v Ob.B32
  have htd : t / Ob.B32 * Ob.B32 + t % Ob.B32 = t := Nat.div_add_mod' t Ob.B32
  have hvlt : v < 18446744073709551616 := by rw [hv]; exact hhi
  have htlt : t < 18446744073709551616 := by rw [ht]; exact Nat.mod_lt _ (by decide)
  have hloL : lo / L < K := by
    rw [Nat.div_lt_iff_lt_mul hLp, hKL]
    exact hl
  have huv : u < v := by
    have h2 : (hi + 1) * K ≤ y * K := Nat.mul_le_mul_right _ h1
    rw [Nat.succ_mul] at h2
    omega
  have hhiK : hi * K < 18446744073709551616 := by
    have h2 : hi * K ≤ u := by rw [hu]; exact Nat.le_add_right _ _
    omega
  have hv1 : 2147483648 ≤ v / Ob.B32 := by simp only [Ob.B32]; omega
  have hv1' : v / Ob.B32 < 4294967296 := by simp only [Ob.B32]; omega
  have huv' : u < v / Ob.B32 * Ob.B32 + v % Ob.B32 := by omega
  have hv0 : v % Ob.B32 < 4294967296 := Nat.mod_lt _ (by decide)
  have hd1 : t / Ob.B32 < 4294967296 := by simp only [Ob.B32]; omega
  have hd0 : t % Ob.B32 < 4294967296 := Nat.mod_lt _ (by decide)
  have e4 : bits .or .u64 (IntKind.u64.wrap ((hi : Int) * 2 ^ s)) ((lo : Int) / 2 ^ (64 - s)) = (u : Int) := by
    rw [hKi, hLi, ← Int.natCast_mul, wrapNat _ hhiK, ← Int.natCast_ediv, bits_or_u64_nat _ _ hhiK (by omega)]
    have := Nat.shiftLeft_add_eq_or_of_lt (b := lo / L) (i := s) (by rw [← hK]; exact hloL) hi
    rw [Nat.shiftLeft_eq, ← hK] at this
    rw [← this, hu]
  have first1 := Ob.Dig.first u (v / Ob.B32) (v % Ob.B32) (t / Ob.B32) hv1 hv1' hv0 hd1 huv'
  obtain ⟨r1, hr1⟩ : ∃ r1, r1 = (u * Ob.B32 + t / Ob.B32) % v := ⟨_, rfl⟩
  have hr1v : r1 < v := by rw [hr1]; exact Nat.mod_lt _ (by omega)
  have first2 := Ob.Dig.first r1 (v / Ob.B32) (v % Ob.B32) (t % Ob.B32) hv1 hv1' hv0 hd0 (by omega)
  obtain ⟨q1, hq1⟩ : ∃ q1, q1 = (u * Ob.B32 + t / Ob.B32) / v := ⟨_, rfl⟩
  obtain ⟨q0, hq0⟩ : ∃ q0, q0 = (r1 * Ob.B32 + t % Ob.B32) / v := ⟨_, rfl⟩
  obtain ⟨r0, hr0⟩ : ∃ r0, r0 = (r1 * Ob.B32 + t % Ob.B32) % v := ⟨_, rfl⟩
  have hr0v : r0 < v := by rw [hr0]; exact Nat.mod_lt _ (by omega)
  have a1 : u * 4294967296 + t / Ob.B32 = q1 * v + r1 := by rw [hq1, hr1]; exact (Nat.div_add_mod' _ _).symm
  have a0 : r1 * 4294967296 + t % Ob.B32 = q0 * v + r0 := by rw [hq0, hr0]; exact (Nat.div_add_mod' _ _).symm
  have hq1b : q1 < Ob.B32 := by rw [hq1]; exact Ob.dig_lt u v _ huv hd1
  have hq0b : q0 < Ob.B32 := by rw [hq0]; exact Ob.dig_lt r1 v _ hr1v hd0
  have whole := Ob.div64_whole hi lo y K L hKL (by omega) u (t / Ob.B32) (t % Ob.B32) q1 r1 q0 hu (htd.trans ht) (by rw [← hv]; exact hq1) (by rw [← hv]; exact hr1) (by rw [← hv]; exact hq0)
  rw [← hv, ← hr0] at whole
  have hlz : ∀ w, Calls Try.prog 79 #[.int .u64 y] w fun e w' => e = .returned (.int .i64 s) ∧ w = w' := fun w =>
    (Try.bits_LeadingZeros64 (y : Int) w (by omega) (by omega)).mono fun e w' ⟨he, hw⟩ => ⟨by rw [he, Int.toNat_natCast, hb], hw.symm⟩
  refine div64_core hi lo y s u v (v / Ob.B32) (v % Ob.B32) t (t / Ob.B32) (t % Ob.B32) w hl hy h0 h1 hs hlz
    (by rw [hKi, ← Int.natCast_mul, wrapNat _ hhi, hv]) (Int.natCast_ediv v 4294967296).symm (mask32 v hvlt) e4
    (by rw [hKi, ← Int.natCast_mul, wrapMod, ht]) (Int.natCast_ediv t 4294967296).symm (mask32 t htlt)
    hv1 hv1' hv0 hd1 hd0 (by omega) huv' (u / (v / Ob.B32)) (u - u / (v / Ob.B32) * (v / Ob.B32)) (first1.2.2.1) (first1.2.2.2) (Int.natCast_ediv u _).symm (first_rest u _ (by omega)) first1
    q1 r1 (by rw [hvd]; exact hq1) (by omega) (by show r1 < _; omega) (wrap_rest u _ q1 v r1 (by omega) a1)
    (r1 / (v / Ob.B32)) (r1 - r1 / (v / Ob.B32) * (v / Ob.B32)) (first2.2.2.1) (first2.2.2.2) (Int.natCast_ediv r1 _).symm (first_rest r1 _ (by omega)) first2
    q0 r0 (by rw [hvd]; exact hq0) (by omega) _ _ ?_ (wrap_rest r1 _ q0 v r0 (by omega) a0) ?_
  · rw [← whole.1]
    simp only [IntKind.wrap_u64, Ob.B32] at *
    omega
  · rw [← whole.2, hKi]
    exact (Int.natCast_ediv r0 K).symm

/-- math/bits.Div64 at a divisor above the upper word: the quotient and the remainder. -/
theorem div64_any (hi lo y : Nat) (w : World) (hl : lo < 18446744073709551616) (hy : y < 18446744073709551616) (h1 : hi < y) :
    Calls Try.prog 75 #[.int .u64 hi, .int .u64 lo, .int .u64 y] w fun e w' => e = .returned (.tuple #[.int .u64 (((hi * Ob.B64 + lo) / y : Nat) : Int), .int .u64 (((hi * Ob.B64 + lo) % y : Nat) : Int)]) ∧ ∃ n, w' = w.drewN n := by
  by_cases h0 : hi = 0
  · subst h0
    have e : 0 * Ob.B64 + lo = lo := by rw [Nat.zero_mul, Nat.zero_add]
    rw [e]
    exact div64_low lo y w hl hy h1
  · exact (div64_high hi lo y w hl hy (by omega) h1).mono fun e w' ⟨he, hw⟩ => ⟨he, 0, hw⟩
end Go.Proofs.Ytdbolfmmlmoiaaa

namespace Go.Proofs.Ytdbolfmmlmoiaaa
open Go.RowKit Go.Proofs
set_option linter.unusedVariables false

theorem ret_int {k : IntKind} {a b : Int} (h : a = b) : Ending.returned (.int k a) = .returned (.int k b) := by rw [h]

theorem isModulus_yes (m : Nat) (w : World) (h1 : 2 ≤ m) (h2 : m ≤ 4611686018427387904) :
    Calls Try.prog 65 #[.int .u64 m] w fun e w' => e = .returned (.bool true) ∧ w = w' := by
  have i1 : (2 : Int) ≤ (m : Int) := by omega
  have i2 : (m : Int) ≤ 4611686018427387904 := by omega
  go_enter Try.func65, Try.ntmps65
  go_wp2
  go_ret
  exact ⟨rfl, rfl⟩

theorem isModulus_no (m : Nat) (w : World) (h : m < 2 ∨ 4611686018427387904 < m) :
    Calls Try.prog 65 #[.int .u64 m] w fun e w' => e = .returned (.bool false) ∧ w = w' := by
  rcases h with h | h
  · have i1 : ¬ (2 : Int) ≤ (m : Int) := by omega
    have i2 : (m : Int) < 2 := by omega
    go_enter Try.func65, Try.ntmps65
    go_wp2
    go_ret
    exact ⟨rfl, rfl⟩
  · have i1 : (2 : Int) ≤ (m : Int) := by omega
    have i2 : ¬ (m : Int) ≤ 4611686018427387904 := by omega
    have i3 : (4611686018427387904 : Int) < (m : Int) := by omega
    go_enter Try.func65, Try.ntmps65
    go_wp2
    go_ret
    exact ⟨rfl, rfl⟩

theorem rest_any (m a : Nat) (w : World) (hm : 0 < m) (ha : a < 18446744073709551616) :
    Calls Try.prog 67 #[.int .u64 m, .int .u64 a] w fun e w' => e = .returned (.int .u64 ((a % m : Nat) : Int)) ∧ w = w' := by
  by_cases h : a < m
  · have e : Hid (a % m = a) := Nat.mod_eq_of_lt h
    go_enter Try.func67, Try.ntmps67
    go_wp2
    go_ret
    exact ⟨ret_int (by rw [e.out]), rfl⟩
  · go_enter Try.func67, Try.ntmps67
    go_wp2
    go_ret
    exact ⟨ret_int (by simp), rfl⟩

theorem addRests_any (m a b : Nat) (w : World) (hm : m ≤ 4611686018427387904) (ha : a ≤ m) (hb : b ≤ m) (hab : a + b < 2 * m) :
    Calls Try.prog 70 #[.int .u64 m, .int .u64 a, .int .u64 b] w fun e w' => e = .returned (.int .u64 (((a + b) % m : Nat) : Int)) ∧ w = w' := by
  by_cases h : m ≤ a + b
  · have e : Hid ((a + b) % m = a + b - m) := by
      show (a + b) % m = a + b - m
      rw [Nat.mod_eq_sub_mod h, Nat.mod_eq_of_lt (by omega)]
    go_enter Try.func70, Try.ntmps70
    go_wp2
    go_ret
    exact ⟨ret_int (by rw [e.out]; omega), rfl⟩
  · have e : Hid ((a + b) % m = a + b) := Nat.mod_eq_of_lt (by omega)
    go_enter Try.func70, Try.ntmps70
    go_wp2
    go_ret
    exact ⟨ret_int (by rw [e.out]; omega), rfl⟩

theorem mulRests_core (m a b hi lo q r : Nat) (w : World)
    (hmul : ∀ w, Calls Try.prog 74 #[.int .u64 a, .int .u64 b] w fun e w' => e = .returned (.tuple #[.int .u64 hi, .int .u64 lo]) ∧ w = w')
    (hdiv : ∀ w, Calls Try.prog 75 #[.int .u64 hi, .int .u64 lo, .int .u64 m] w fun e w' => e = .returned (.tuple #[.int .u64 q, .int .u64 r]) ∧ ∃ n, w' = w.drewN n) :
    Calls Try.prog 69 #[.int .u64 m, .int .u64 a, .int .u64 b] w fun e w' => e = .returned (.int .u64 r) ∧ ∃ n, w' = w.drewN n := by
  go_enter Try.func69, Try.ntmps69
  go_wp2_with (first | (go_at_call 74; refine (hmul _).mono ?_; rintro e w' ⟨rfl, rfl⟩) | (go_at_call 75; refine (hdiv _).mono ?_; rintro e w' ⟨rfl, n, rfl⟩))
  go_ret
  exact ⟨rfl, _, rfl⟩

theorem mulRests_any (m a b : Nat) (w : World) (hm : m < 18446744073709551616) (ha : a < m) (hb : b < m) :
    Calls Try.prog 69 #[.int .u64 m, .int .u64 a, .int .u64 b] w fun e w' => e = .returned (.int .u64 ((a * b % m : Nat) : Int)) ∧ ∃ n, w' = w.drewN n := by
  have hlt : a * b < m * 18446744073709551616 := Nat.mul_lt_mul_of_lt_of_lt ha (by omega)
  have hhi : a * b / 18446744073709551616 < m := by rw [Nat.div_lt_iff_lt_mul (by decide)]; exact hlt
  have hd := Nat.div_add_mod' (a * b) 18446744073709551616
  have := mulRests_core m a b _ _ _ _ w (fun w => (Try.bits_Mul64 a b (by omega) (by omega) w).mono fun e w' ⟨he, hw⟩ => ⟨he, hw.symm⟩)
    (fun w => div64_any _ _ m w (Nat.mod_lt _ (by decide)) hm hhi)
  rwa [hd] at this

theorem and_one (a : Nat) (ha : a < 18446744073709551616) : bits .and .u64 (a : Int) 1 = ((a % 2 : Nat) : Int) := by
  have h := bits_and_u64_nat a 1 ha (by omega)
  have e : a &&& 1 = a % 2 := Nat.and_two_pow_sub_one_eq_mod a 1
  rw [e] at h
  exact h

set_option maxHeartbeats 400000 in
theorem powRest_any (m a x : Nat) (w : World) (hm1 : 2 ≤ m) (hm : m ≤ 4611686018427387904) (ha : a < m) (hx : x < 18446744073709551616) :
    Calls Try.prog 66 #[.int .u64 m, .int .u64 a, .int .u64 x] w fun e w' => e = .returned (.int .u64 ((a ^ x % m : Nat) : Int)) ∧ ∃ n, w' = w.drewN n := by
  have hstart : Hid (1 * a ^ x % m = a ^ x % m) := by rw [Nat.one_mul]; rfl
  go_enter Try.func66, Try.ntmps66
  go_wp2
  go_loopw [1, 2, 7] (fun sa se sp wr => ∃ A E p n : Nat, A < m ∧ E < 18446744073709551616 ∧ p < m ∧ sa = .int .u64 A ∧ se = .int .u64 E ∧ sp = .int .u64 p ∧ wr = w.drewN n ∧ Hid (p * A ^ E % m = a ^ x % m)) (fun _ se _ _ => (intOf se).toNat)
  case atStart => exact ⟨a, x, 1, 0, ha, hx, by omega, rfl, rfl, rfl, rfl, hstart⟩
  case round =>
    obtain ⟨A, E, p, n, hA, hE, hp, rfl, rfl, rfl, rfl, hI⟩ := hrel
    clear hstart hx
    by_cases h0 : 0 < E
    · have hand := and_one E hE
      by_cases h1 : E % 2 = 1
      · have h1' : ((E % 2 : Nat) : Int) = 1 := by omega
        rw [h1'] at hand
        clear h1'
        have hn : Hid ((p * A % m) * (A * A % m) ^ (E / 2) % m = a ^ x % m) := by rw [Ob.pow_odd m p A E h1]; exact hI
        clear h1
        go_wp2_with (go_at_call 69; refine (mulRests_any m _ _ _ (by omega) (by assumption) (by assumption)).mono ?_; rintro e w' ⟨rfl, n, rfl⟩)
        go_roundw
        case rel => exact ⟨_, E / 2, _, _, Nat.mod_lt _ (by omega), by omega, Nat.mod_lt _ (by omega), rfl, by go_num, rfl, rfl, hn⟩
        case measure => simp [intOf]; omega
      · have h1' : ((E % 2 : Nat) : Int) = 0 := by omega
        rw [h1'] at hand
        clear h1'
        have hn : Hid (p * (A * A % m) ^ (E / 2) % m = a ^ x % m) := by rw [Ob.pow_even m p A E (by omega)]; exact hI
        clear h1
        go_wp2_with (go_at_call 69; refine (mulRests_any m _ _ _ (by omega) (by assumption) (by assumption)).mono ?_; rintro e w' ⟨rfl, n, rfl⟩)
        go_roundw
        case rel => exact ⟨_, E / 2, _, _, Nat.mod_lt _ (by omega), by omega, hp, rfl, by go_num, rfl, rfl, hn⟩
        case measure => simp [intOf]; omega
    · have hn : Hid (p = a ^ x % m) := by
        have := hI.out
        have hE0 : E = 0 := by omega
        rw [hE0, Nat.pow_zero, Nat.mul_one, Nat.mod_eq_of_lt hp] at this
        exact this
      go_wp2
      go_ret
      exact ⟨ret_int (by rw [hn.out]), _, rfl⟩
end Go.Proofs.Ytdbolfmmlmoiaaa

namespace Go.Proofs.Ytdbolfmmlmoiaaa
open Go.RowKit Go.Proofs
set_option linter.unusedVariables false

theorem add_any (m a b : Nat) (w : World) (hm : m < 18446744073709551616) (ha : a < 18446744073709551616) (hb : b < 18446744073709551616) :
    Calls Try.prog 61 #[.int .u64 m, .int .u64 a, .int .u64 b] w fun e w' => e = .returned (.int .u64 (Ob.add m a b : Nat)) ∧ w = w' := by
  by_cases h : Ob.Mod m
  · obtain ⟨h1, h2⟩ := h
    have la : a % m < m := Nat.mod_lt _ (by omega)
    have lb : b % m < m := Nat.mod_lt _ (by omega)
    have e : Hid (Ob.add m a b = (a % m + b % m) % m) := by rw [Ob.add_yes ⟨h1, h2⟩, Nat.add_mod]; rfl
    go_enter Try.func61, Try.ntmps61
    go_wp2_with (first | (go_at_call 65; refine (isModulus_yes m _ h1 h2).mono ?_; rintro e w' ⟨rfl, rfl⟩) | (go_at_call 67; refine (rest_any m _ _ (by omega) (by assumption)).mono ?_; rintro e w' ⟨rfl, rfl⟩) | (go_at_call 70; refine (addRests_any m (a % m) (b % m) _ h2 (by omega) (by omega) (by omega)).mono ?_; rintro e w' ⟨rfl, rfl⟩))
    go_ret
    exact ⟨ret_int (by rw [e.out]; simp), rfl⟩
  · have e : Hid (Ob.add m a b = 0) := Ob.add_no h
    have h' : m < 2 ∨ 4611686018427387904 < m := Ob.not_mod h
    clear h
    go_enter Try.func61, Try.ntmps61
    go_wp2_with (go_at_call 65; refine (isModulus_no m _ h').mono ?_; rintro e w' ⟨rfl, rfl⟩)
    go_ret
    exact ⟨ret_int (by rw [e.out]; rfl), rfl⟩

theorem mul_any (m a b : Nat) (w : World) (hm : m < 18446744073709551616) (ha : a < 18446744073709551616) (hb : b < 18446744073709551616) :
    Calls Try.prog 59 #[.int .u64 m, .int .u64 a, .int .u64 b] w fun e w' => e = .returned (.int .u64 (Ob.mul m a b : Nat)) ∧ ∃ n, w' = w.drewN n := by
  by_cases h : Ob.Mod m
  · obtain ⟨h1, h2⟩ := h
    have la : a % m < m := Nat.mod_lt _ (by omega)
    have lb : b % m < m := Nat.mod_lt _ (by omega)
    have e : Hid (Ob.mul m a b = a % m * (b % m) % m) := by rw [Ob.mul_yes ⟨h1, h2⟩, Nat.mul_mod]; rfl
    go_enter Try.func59, Try.ntmps59
    go_wp2_with (first | (go_at_call 65; refine (isModulus_yes m _ h1 h2).mono ?_; rintro e w' ⟨rfl, rfl⟩) | (go_at_call 67; refine (rest_any m _ _ (by omega) (by assumption)).mono ?_; rintro e w' ⟨rfl, rfl⟩) | (go_at_call 69; refine (mulRests_any m (a % m) (b % m) _ hm la lb).mono ?_; rintro e w' ⟨rfl, n, rfl⟩))
    go_ret
    exact ⟨ret_int (by rw [e.out]; simp), _, rfl⟩
  · have e : Hid (Ob.mul m a b = 0) := Ob.mul_no h
    have h' : m < 2 ∨ 4611686018427387904 < m := Ob.not_mod h
    clear h
    go_enter Try.func59, Try.ntmps59
    go_wp2_with (go_at_call 65; refine (isModulus_no m _ h').mono ?_; rintro e w' ⟨rfl, rfl⟩)
    go_ret
    exact ⟨ret_int (by rw [e.out]; rfl), 0, rfl⟩

theorem pow_any (m a x : Nat) (w : World) (hm : m < 18446744073709551616) (ha : a < 18446744073709551616) (hx : x < 18446744073709551616) :
    Calls Try.prog 50 #[.int .u64 m, .int .u64 a, .int .u64 x] w fun e w' => e = .returned (.int .u64 (Ob.pow m a x : Nat)) ∧ ∃ n, w' = w.drewN n := by
  by_cases h : Ob.Mod m
  · obtain ⟨h1, h2⟩ := h
    have la : a % m < m := Nat.mod_lt _ (by omega)
    have e : Hid (Ob.pow m a x = (a % m) ^ x % m) := by rw [Ob.pow_yes ⟨h1, h2⟩, Nat.pow_mod]; rfl
    go_enter Try.func50, Try.ntmps50
    go_wp2_with (first | (go_at_call 65; refine (isModulus_yes m _ h1 h2).mono ?_; rintro e w' ⟨rfl, rfl⟩) | (go_at_call 67; refine (rest_any m _ _ (by omega) (by assumption)).mono ?_; rintro e w' ⟨rfl, rfl⟩) | (go_at_call 66; refine (powRest_any m (a % m) x _ h1 h2 la hx).mono ?_; rintro e w' ⟨rfl, n, rfl⟩))
    go_ret
    exact ⟨ret_int (by rw [e.out]; simp), _, rfl⟩
  · have e : Hid (Ob.pow m a x = 0) := Ob.pow_no h
    have h' : m < 2 ∨ 4611686018427387904 < m := Ob.not_mod h
    clear h
    go_enter Try.func50, Try.ntmps50
    go_wp2_with (go_at_call 65; refine (isModulus_no m _ h').mono ?_; rintro e w' ⟨rfl, rfl⟩)
    go_ret
    exact ⟨ret_int (by rw [e.out]; rfl), 0, rfl⟩
end Go.Proofs.Ytdbolfmmlmoiaaa

namespace Ob

/-- At every round: r and n are x a and y a modulo m; their divisors are those of m and a; the factors' signs alternate, and they stay within m. -/
structure Euc (m a r n : Nat) (x y : Int) : Prop where
  fx : ∃ k : Int, x * a = r + m * k
  fy : ∃ k : Int, y * a = n + m * k
  gcd : Nat.gcd r n = Nat.gcd m a
  sum : r * y.natAbs + n * x.natAbs = m
  signs : (0 ≤ x ∧ y ≤ 0) ∨ (x ≤ 0 ∧ 0 ≤ y)
  lt : n < r
  small : x.natAbs < m
  le : r ≤ m

theorem Euc.start {m a : Nat} (h : a < m) : Euc m a m a 0 1 where
  fx := ⟨-1, by grind⟩
  fy := ⟨0, by grind⟩
  gcd := rfl
  sum := by simp
  signs := by omega
  lt := h
  small := by simp; omega
  le := Nat.le_refl _

theorem sum_step (r n q d X Y m : Nat) (h : r * Y + n * X = m) (hd : r = q * n + d) : n * (X + q * Y) + d * Y = m := by
  subst hd
  rw [← h, Nat.mul_add, Nat.add_mul, ← Nat.mul_assoc, Nat.mul_comm n q]
  omega

theorem Euc.step {m a r n : Nat} {x y : Int} (h : Euc m a r n x y) (hn : 0 < n) : Euc m a n (r % n) y (x - (r / n : Nat) * y) := by
  have hd : r = r / n * n + r % n := (Nat.div_add_mod' r n).symm
  have hl : r % n < n := Nat.mod_lt _ hn
  generalize r / n = q at *
  have hg : Nat.gcd n (r % n) = Nat.gcd r n := by rw [Nat.gcd_comm, ← Nat.gcd_rec, Nat.gcd_comm]
  generalize r % n = d at *
  obtain ⟨⟨k, hk⟩, ⟨l, hll⟩, g, s, sg, lt, sm, le⟩ := h
  have hab : (x - (q : Int) * y).natAbs = x.natAbs + q * y.natAbs := by
    have e : (q : Int) * y = (q : Int) * y := rfl
    have e2 : ((q : Int) * y).natAbs = q * y.natAbs := by rw [Int.natAbs_mul, Int.natAbs_natCast]
    rcases sg with ⟨h1, h2⟩ | ⟨h1, h2⟩
    · have h3 : (q : Int) * y ≤ 0 := Int.mul_nonpos_of_nonneg_of_nonpos (by omega) h2
      omega
    · have h3 : 0 ≤ (q : Int) * y := Int.mul_nonneg (by omega) h2
      omega
  refine ⟨⟨l, hll⟩, ⟨k - q * l, ?_⟩, by rw [hg, g], ?_, ?_, hl, ?_, by omega⟩
  · have : (r : Int) = q * n + d := by rw [hd]; simp
    grind
  · rw [hab]
    exact sum_step r n q d x.natAbs y.natAbs m s hd
  · rcases sg with ⟨h1, h2⟩ | ⟨h1, h2⟩
    · have h3 : (q : Int) * y ≤ 0 := Int.mul_nonpos_of_nonneg_of_nonpos (by omega) h2
      omega
    · have h3 : 0 ≤ (q : Int) * y := Int.mul_nonneg (by omega) h2
      omega
  · rcases Nat.eq_zero_or_pos y.natAbs with h0 | h0
    · omega
    · have : 2 * y.natAbs ≤ r * y.natAbs := Nat.mul_le_mul_right _ (by omega)
      omega

theorem Euc.bounds {m a r n : Nat} {x y : Int} (h : Euc m a r n x y) : y.natAbs ≤ m := by
  have h1 := h.sum
  have h2 := h.lt
  have : 1 * y.natAbs ≤ r * y.natAbs := Nat.mul_le_mul_right _ (by omega)
  omega

/-- What is told at the end, with the divisor 1. -/
theorem Euc.last {m a r : Nat} {x y : Int} (h : Euc m a r 0 x y) : r = Nat.gcd m a := by
  have := h.gcd
  rw [Nat.gcd_zero_right] at this
  exact this

theorem Euc.inverse {m a : Nat} {x y : Int} (h : Euc m a 1 0 x y) (X : Nat) (hX : (X : Int) = if x < 0 then x + m else x) : X < m ∧ X * a % m = 1 % m := by
  obtain ⟨k, hk⟩ := h.fx
  have hs := h.small
  refine ⟨by split at hX <;> omega, ?_⟩
  have : ∃ j : Int, (X : Int) * a = 1 + m * j := by
    split at hX
    · exact ⟨k + a, by rw [hX]; grind⟩
    · exact ⟨k, by rw [hX]; grind⟩
  obtain ⟨j, hj⟩ := this
  have e : ((X * a % m : Nat) : Int) = ((1 % m : Nat) : Int) := by
    rw [Int.natCast_emod, Int.natCast_mul, hj, Int.add_mul_emod_self_left, Int.natCast_emod]
    rfl
  exact Int.ofNat.inj e

theorem Euc.ends {m a : Nat} : ∀ (n r : Nat) (x y : Int), Euc m a r n x y → ∃ r x y, Euc m a r 0 x y := by
  intro n
  induction n using Nat.strongRecOn with
  | ind n ih =>
    intro r x y h
    rcases Nat.eq_zero_or_pos n with h0 | h0
    · subst h0; exact ⟨r, x, y, h⟩
    · exact ih (r % n) (Nat.mod_lt _ h0) n y _ (h.step h0)

/-- What has no divisor in common with m has an inverse. -/
theorem inverse_exists {m a : Nat} (hm : 2 ≤ m) (hg : Nat.gcd m a = 1) : ∃ X, X < m ∧ X * a % m = 1 % m := by
  have hl : a % m < m := Nat.mod_lt _ (by omega)
  obtain ⟨r, x, y, h⟩ := Euc.ends _ _ _ _ (Euc.start hl)
  have hr := h.last
  have e : Nat.gcd m (a % m) = 1 := by rw [Nat.gcd_comm, ← Nat.gcd_rec, hg]
  rw [e] at hr
  subst hr
  have hs := h.small
  obtain ⟨h1, h2⟩ := h.inverse (if x < 0 then x + m else x).toNat (by split <;> omega)
  refine ⟨_, h1, ?_⟩
  rw [Nat.mul_mod, Nat.mod_mod, ← Nat.mul_mod] at h2
  exact h2
end Ob

namespace Go.Proofs.Ytdbolfmmlmoiaaa
open Go.RowKit Go.Proofs
set_option linter.unusedVariables false

theorem w64_in (n : Int) (h1 : -9223372036854775808 ≤ n) (h2 : n ≤ 9223372036854775807) : wrap64 n = n := IntWalk.wrap64_in n ⟨h1, h2⟩

end Go.Proofs.Ytdbolfmmlmoiaaa

namespace Go.Proofs.Ytdbolfmmlmoiaaa
open Go.RowKit Go.Proofs
set_option linter.unusedVariables false

theorem add_rests (m x y : Nat) (hx : x < m) (hy : y < m) : (x + y) % m = if m - y ≤ x then x - (m - y) else x + y := by
  split
  · rw [Nat.mod_eq_sub_mod (by omega), Nat.mod_eq_of_lt (by omega)]; omega
  · rw [Nat.mod_eq_of_lt (by omega)]

set_option maxHeartbeats 400000 in
theorem radd_any (m a b : Nat) (w : World) (h : Ob.Mod m) (ha : a < 18446744073709551616) (hb : b < 18446744073709551616) :
    Calls Try.prog 54 #[.int .u64 m, .int .u64 a, .int .u64 b] w fun e w' => e = .returned (.int .u64 (Ob.add m a b : Nat)) ∧ w = w' := by
  obtain ⟨x, ex, hx⟩ : ∃ x : Nat, (a : Int) % (m : Int) = (x : Int) ∧ Hid (x = a % m) := ⟨a % m, by simp, rfl⟩
  obtain ⟨y, ey, hy⟩ : ∃ y : Nat, (b : Int) % (m : Int) = (y : Int) ∧ Hid (y = b % m) := ⟨b % m, by simp, rfl⟩
  have h1 := h.1
  have h2 := h.2
  have lx : x < m := by rw [hx.out]; exact Nat.mod_lt _ (by omega)
  have ly : y < m := by rw [hy.out]; exact Nat.mod_lt _ (by omega)
  have he : Hid (Ob.add m a b = if m - y ≤ x then x - (m - y) else x + y) := by
    show Ob.add m a b = if m - y ≤ x then x - (m - y) else x + y
    rw [Ob.add_yes h, ← add_rests m x y lx ly, hx.out, hy.out, ← Nat.add_mod]
  clear hx hy h
  by_cases hc : m ≤ x + y
  · have hn : Hid (Ob.add m a b = x - (m - y)) := by rw [he.out, if_pos (by omega)]; rfl
    clear he
    go_enter Try.func54, Try.ntmps54
    go_wp2
    go_ret
    exact ⟨ret_int (by rw [hn.out]; omega), rfl⟩
  · have hn : Hid (Ob.add m a b = x + y) := by rw [he.out, if_neg (by omega)]; rfl
    clear he
    go_enter Try.func54, Try.ntmps54
    go_wp2
    go_ret
    exact ⟨ret_int (by rw [hn.out]; omega), rfl⟩

/-- One round of the product by doubling. -/
theorem mul_round (m x y o k : Nat) (hm : 0 < m) (hx : x < m) (ho : o = x * (y / 2 ^ (k + 1)) % m) (b : Nat) (hb : b = y / 2 ^ k % 2) :
    x * (y / 2 ^ k) % m = ((o + o) % m + x * b) % m := by rw [Ob.mul_bit, ← ho, ← hb]

set_option maxHeartbeats 1000000 in
theorem rmul_any (m a b : Nat) (w : World) (h : Ob.Mod m) (ha : a < 18446744073709551616) (hb : b < 18446744073709551616) :
    Calls Try.prog 62 #[.int .u64 m, .int .u64 a, .int .u64 b] w fun e w' => e = .returned (.int .u64 (Ob.mul m a b : Nat)) ∧ w = w' := by
  obtain ⟨x, ex, hx⟩ : ∃ x : Nat, (a : Int) % (m : Int) = (x : Int) ∧ Hid (x = a % m) := ⟨a % m, by simp, rfl⟩
  obtain ⟨y, ey, hy⟩ : ∃ y : Nat, (b : Int) % (m : Int) = (y : Int) ∧ Hid (y = b % m) := ⟨b % m, by simp, rfl⟩
  have h1 := h.1
  have h2 := h.2
  have lx : x < m := by rw [hx.out]; exact Nat.mod_lt _ (by omega)
  have ly : y < m := by rw [hy.out]; exact Nat.mod_lt _ (by omega)
  have hlast : Hid (x * y % m = Ob.mul m a b) := by
    show x * y % m = Ob.mul m a b
    rw [Ob.mul_yes h, hx.out, hy.out, ← Nat.mul_mod]
  clear hx hy h
  go_enter Try.func62, Try.ntmps62
  go_wp2
  go_loop [9, 10] (fun so si => ∃ o i : Nat, o < m ∧ i ≤ 64 ∧ so = .int .u64 o ∧ si = .int .i64 i ∧ Hid (o = x * (y / 2 ^ (64 - i)) % m)) (fun _ si => 64 - (intOf si).toNat)
  case atStart => exact ⟨0, 0, by omega, by omega, rfl, rfl, by
    have : y / 2 ^ (64 - 0) = 0 := Nat.div_eq_of_lt (by omega)
    show 0 = x * (y / 2 ^ (64 - 0)) % m
    rw [this, Nat.mul_zero, Nat.zero_mod]⟩
  case round =>
    obtain ⟨o, i, ho, hi, rfl, rfl, hI⟩ := hrel
    by_cases hlt : i < 64
    · obtain ⟨k, hk⟩ : ∃ k, k + i = 63 := ⟨63 - i, by omega⟩
      have hyk : y / 2 ^ k < 18446744073709551616 := Nat.lt_of_le_of_lt (Nat.div_le_self _ _) (by omega)
      obtain ⟨t, ht⟩ : ∃ t : Nat, (y : Int) / 2 ^ (63 - i) = (t : Int) ∧ Hid (t = y / 2 ^ k) := ⟨y / 2 ^ k, by
        have : 63 - i = k := by omega
        rw [this]
        simp, rfl⟩
      obtain ⟨ht, htk⟩ := ht
      have hand := and_one t (by rw [htk.out]; exact hyk)
      obtain ⟨d, hd, hdd⟩ : ∃ d : Nat, d < m ∧ Hid (d = (o + o) % m) := ⟨(o + o) % m, Nat.mod_lt _ (by omega), rfl⟩
      have hI2 : Hid (x * (y / 2 ^ k) % m = (d + x * (t % 2)) % m) := by
        have e1 : 64 - i = k + 1 := by omega
        have := hI.out
        rw [e1] at this
        show x * (y / 2 ^ k) % m = (d + x * (t % 2)) % m
        rw [mul_round m x y o k (by omega) lx this (t % 2) (by rw [htk.out]), hdd.out]
      clear hI
      have hdo : (m ≤ o + o ∧ (o : Int) - ((m : Int) - (o : Int)) = (d : Int)) ∨ (o + o < m ∧ (o : Int) + (o : Int) = (d : Int)) := by
        have := hdd.out
        rcases Nat.lt_or_ge (o + o) m with c | c
        · exact Or.inr ⟨c, by rw [Nat.mod_eq_of_lt c] at this; omega⟩
        · refine Or.inl ⟨c, ?_⟩
          rw [Nat.mod_eq_sub_mod c, Nat.mod_eq_of_lt (by omega)] at this
          omega
      clear hdd hyk htk
      have e2 : Hid (64 - (i + 1) = k) := by show 64 - (i + 1) = k; omega
      by_cases hbit : t % 2 = 1
      · have hb1 : ((t % 2 : Nat) : Int) = 1 := by omega
        rw [hb1] at hand
        clear hb1
        have hI3 : Hid (x * (y / 2 ^ k) % m = (d + x) % m) := by have := hI2.out; rw [hbit, Nat.mul_one] at this; exact this
        clear hI2 hbit
        by_cases hc : m ≤ d + x
        · have hn : Hid (d - (m - x) = x * (y / 2 ^ k) % m) := by
            show d - (m - x) = x * (y / 2 ^ k) % m
            rw [hI3.out, Nat.mod_eq_sub_mod hc, Nat.mod_eq_of_lt (by omega)]
            omega
          clear hI3
          rcases hdo with ⟨c1, c2⟩ | ⟨c1, c2⟩
          all_goals
            go_wp2
            go_round
            case rel => exact ⟨d - (m - x), i + 1, by omega, by omega, val_int (by omega), by go_num, by show d - (m - x) = _; rw [e2.out]; exact hn⟩
            case measure => simp [intOf]; omega
        · have hn : Hid (d + x = x * (y / 2 ^ k) % m) := by
            show d + x = x * (y / 2 ^ k) % m
            rw [hI3.out, Nat.mod_eq_of_lt (by omega)]
          clear hI3
          rcases hdo with ⟨c1, c2⟩ | ⟨c1, c2⟩
          all_goals
            go_wp2
            go_round
            case rel => exact ⟨d + x, i + 1, by omega, by omega, val_int (by omega), by go_num, by show d + x = _; rw [e2.out]; exact hn⟩
            case measure => simp [intOf]; omega
      · have hb1 : ((t % 2 : Nat) : Int) = 0 := by omega
        rw [hb1] at hand
        clear hb1
        have hn : Hid (d = x * (y / 2 ^ k) % m) := by
          have := hI2.out
          have hz : t % 2 = 0 := by omega
          rw [hz, Nat.mul_zero, Nat.add_zero, Nat.mod_eq_of_lt hd] at this
          exact this.symm
        clear hI2 hbit
        rcases hdo with ⟨c1, c2⟩ | ⟨c1, c2⟩
        all_goals
          go_wp2
          go_round
          case rel => exact ⟨d, i + 1, by omega, by omega, by first | rfl | exact val_int (by omega), by go_num, by show d = _; rw [e2.out]; exact hn⟩
          case measure => simp [intOf]; omega
    · have hn : Hid (o = Ob.mul m a b) := by
        have := hI.out
        have e : 64 - i = 0 := by omega
        rw [e, Nat.pow_zero, Nat.div_one, hlast.out] at this
        exact this
      clear hI hlast
      go_wp2
      go_ret
      exact ⟨ret_int (by rw [hn.out]), rfl⟩

end Go.Proofs.Ytdbolfmmlmoiaaa

namespace Go.Proofs.Ytdbolfmmlmoiaaa
open Go.RowKit Go.Proofs
set_option linter.unusedVariables false
set_option linter.unusedSimpArgs false
attribute [local go_sem ↓] Go.wp_at_zero Go.wp_at_succ

theorem rmulR (a b : Nat) (ha : a < 18446744073709551616) (hb : b < 18446744073709551616) (w : World) :
    Calls Try.prog 62 #[.int .u64 288230376287764481, .int .u64 a, .int .u64 b] w fun e w' => e = .returned (.int .u64 ((Ob.toG a * Ob.toG b).val : Nat)) ∧ w = w' := by
  rw [← Ob.mulG]
  exact rmul_any Ob.RE a b w Ob.modRE ha hb
theorem raddR (a b : Nat) (ha : a < 18446744073709551616) (hb : b < 18446744073709551616) (w : World) :
    Calls Try.prog 54 #[.int .u64 288230376287764481, .int .u64 a, .int .u64 b] w fun e w' => e = .returned (.int .u64 ((Ob.toG a + Ob.toG b).val : Nat)) ∧ w = w' := by
  rw [← Ob.addG]
  exact radd_any Ob.RE a b w Ob.modRE ha hb
theorem gmulW (a b : Nat) (ha : a < 18446744073709551616) (hb : b < 18446744073709551616) (w : World) :
    Calls Try.prog 37 #[.int .u64 a, .int .u64 b] w fun e w' => e = .returned (.int .u64 ((Ob.toG a * Ob.toG b).val : Nat)) ∧ w = w' := by
  have c0 := rmulR a b ha hb
  generalize (Ob.toG a * Ob.toG b).val = r at *
  go_enter Try.func37, Try.ntmps37
  go_wp2_with (first | (go_at_call 62; first | (with_reducible refine (c0 _).mono ?_; rintro e w' ⟨rfl, rfl⟩)))
  go_ret
  exact ⟨rfl, rfl⟩
theorem gplusW (a b : Nat) (ha : a < 18446744073709551616) (hb : b < 18446744073709551616) (w : World) :
    Calls Try.prog 26 #[.int .u64 a, .int .u64 b] w fun e w' => e = .returned (.int .u64 ((Ob.toG a + Ob.toG b).val : Nat)) ∧ w = w' := by
  have c0 := raddR a b ha hb
  generalize (Ob.toG a + Ob.toG b).val = r at *
  go_enter Try.func26, Try.ntmps26
  go_wp2_with (first | (go_at_call 54; first | (with_reducible refine (c0 _).mono ?_; rintro e w' ⟨rfl, rfl⟩)))
  go_ret
  exact ⟨rfl, rfl⟩
end Go.Proofs.Ytdbolfmmlmoiaaa

namespace Go.Proofs.Ytdbolfmmlmoiaaa
open Go.RowKit Go.Proofs
set_option linter.unusedVariables false
set_option linter.unusedSimpArgs false
attribute [local go_sem ↓] Go.wp_at_zero Go.wp_at_succ
set_option maxHeartbeats 8000000 in
theorem vvalueW (L : Lst) (hL : L.Ok) (ad : Option Addr) (n c : Nat) (hn : n ≤ 9223372036854775807) (x : Nat → Nat) (hx : ∀ i, x i < 18446744073709551616) (w : World) (hA : L.At w.heap.size w) (hs : SrcW w.heap.size w ad n x) :
    Calls Try.prog 38 #[L.val, .slice ad n c] w fun e w' => e = .returned (.int .u64 ((valL L n x).val : Nat)) ∧ Below w.heap.size w w' := by
  have hA' : Hid (L.At w.heap.size w) := hA
  have hL' : Hid L.Ok := hL
  have hs' : Hid (SrcW w.heap.size w ad n x) := hs
  have hx' : Hid (∀ i, x i < 18446744073709551616) := hx
  have hLn : L.n ≤ 9223372036854775807 := Nat.le_trans hL.n1 hL.n2
  obtain ⟨S, hS⟩ : ∃ S, Hid ((valL L n x).val = S) := ⟨_, rfl⟩
  rw [hS.out]
  clear hA hL hs hx
  unfold Lst.val
  go_enter Try.func38, Try.ntmps38
  go_wp2
  go_loopw [5, 6] (fun so si wr => ∃ (i o : Nat), i ≤ L.n ∧ so = .int .u64 o ∧ si = .int .i64 i ∧ Below w.heap.size w wr ∧ Hid ((valN L n x i).val = o)) (fun so si _ => L.n - (intOf si).toNat)
  case atStart => exact ⟨0, 0, by omega, rfl, rfl, by (repeat' (first | (with_reducible first | exact Below.refl _ _ | assumption | refine Below.alloc ?_ ?_ _ | refine Below.drew ?_ | refine below_drewN ?_ _ | refine Below.setCell ?_ ?_ _ | refine below_via (by with_reducible assumption) ?_ ?_) | omega | (simp only [szs]; omega) | (simp only [szs] at *; omega))), rfl⟩
  case round =>
    obtain ⟨i, o, hi, rfl, rfl, hB, hI⟩ := hrel
    by_cases hlt : i < L.n
    · have hlt' : (i : Int) < (L.n : Int) := by omega
      rcases hA'.out with hz | ⟨b, off, hb, lb, tb⟩
      · omega
      have tb := tb.below hB lb
      have c0 := tb.c0 i hlt
      have c1 := tb.c1 i hlt
      have hK := hL'.out.K1 i
      have hV1 := hL'.out.V1 i
      have hV2 := hL'.out.V2 i
      have lo : o < 18446744073709551616 := by rw [← hI.out]; exact Ob.G_word _
      have hto : Hid (Ob.toG o = valN L n x i) := by show _ = _; rw [← hI.out, Ob.toG_of_val]
      have hstep : Hid (valN L n x (i + 1) = valN L n x i + termG L n x i) := rfl
      have hI2 : Hid ((valN L n x i).val = o) := hI.out
      rw [hb]
      clear hI
      by_cases h1 : 0 ≤ L.V i ∧ L.V i < (n : Int)
      · obtain ⟨h1, h2⟩ := h1
        obtain ⟨v, hv⟩ : ∃ v : Nat, L.V i = (v : Int) := ⟨(L.V i).toNat, by omega⟩
        have hvn : v < n := by omega
        rcases hs'.out with hz | ⟨bs, os, rfl, ls, ws⟩
        · omega
        have c2 := (ws.below hB ls).at_ v hvn
        have hxv := hx'.out v
        have ht : Hid (termG L n x i = Ob.toG (L.K i) * Ob.toG (x v)) := by
          show termG L n x i = _
          unfold termG
          rw [if_pos ⟨h1, h2⟩, hv, Int.toNat_natCast]
        have cm := gmulW (L.K i) (x v) hK hxv
        have lp := Ob.G_word (Ob.toG (L.K i) * Ob.toG (x v))
        have ep : Ob.toG (Ob.toG (L.K i) * Ob.toG (x v)).val = termG L n x i := by rw [Ob.toG_of_val, ht.out]
        obtain ⟨p, hp⟩ : ∃ p, Hid ((Ob.toG (L.K i) * Ob.toG (x v)).val = p) := ⟨_, rfl⟩
        rw [hp.out] at cm lp ep
        have ca := gplusW o p lo lp
        have ho' : Hid ((valN L n x (i + 1)).val = (Ob.toG o + Ob.toG p).val) := by show _ = _; rw [ep, hto.out, hstep.out]
        generalize (Ob.toG o + Ob.toG p).val = o' at *
        rw [hv] at c0 h1 h2
        clear hV1 hV2 hstep hto ht hxv lo hK hv hp ep lp
        generalize x v = xv at *
        generalize L.K i = Ki at *
        have zB := hB.size
        clear tb ws
        go_wp2
        go_region_held3 (fun w' => w'.cell? ⟨b, off + i * 2, none⟩ = some (.int .i64 (v : Nat)) ∧ w'.cell? ⟨b, off + i * 2 + 1, none⟩ = some (.int .u64 (Ki : Nat)) ∧ w'.cell? ⟨bs, os + v, none⟩ = some (.int .u64 (xv : Nat))) (go_keep)
          ((first | (go_at_call 37; first | (with_reducible refine (cm _).mono ?_; rintro e w' ⟨rfl, rfl⟩)) | (go_at_call 26; first | (with_reducible refine (ca _).mono ?_; rintro e w' ⟨rfl, rfl⟩))))
        go_wp2
        go_roundw
        case rel => exact ⟨i + 1, o', by omega, by first | rfl | trivial, by go_num, by (repeat' (first | (with_reducible first | exact Below.refl _ _ | assumption | refine Below.alloc ?_ ?_ _ | refine Below.drew ?_ | refine below_drewN ?_ _ | refine Below.setCell ?_ ?_ _ | refine below_via (by with_reducible assumption) ?_ ?_) | omega | (simp only [szs]; omega) | (simp only [szs] at *; omega))), ho'⟩
        case measure => (simp [intOf]; omega)
      · have ht : Hid (valN L n x (i + 1) = valN L n x i) := by
          show _ = _
          rw [hstep.out]
          unfold termG
          rw [if_neg h1, Fin.add_zero]
        have ho' : Hid ((valN L n x (i + 1)).val = o) := by
          show _ = _
          rw [ht.out]
          exact hI2.out
        clear hstep hto ht
        generalize L.V i = Vi at *
        generalize L.K i = Ki at *
        clear tb
        by_cases h2 : 0 ≤ Vi
        · have h3 : ¬ Vi < (n : Int) := fun h => h1 ⟨h2, h⟩
          clear h1
          go_wp2
          go_roundw
          case rel => exact ⟨i + 1, o, by omega, by first | rfl | trivial, by go_num, by (repeat' (first | (with_reducible first | exact Below.refl _ _ | assumption | refine Below.alloc ?_ ?_ _ | refine Below.drew ?_ | refine below_drewN ?_ _ | refine Below.setCell ?_ ?_ _ | refine below_via (by with_reducible assumption) ?_ ?_) | omega | (simp only [szs]; omega) | (simp only [szs] at *; omega))), ho'⟩
          case measure => (simp [intOf]; omega)
        · clear h1
          go_wp2
          go_roundw
          case rel => exact ⟨i + 1, o, by omega, by first | rfl | trivial, by go_num, by (repeat' (first | (with_reducible first | exact Below.refl _ _ | assumption | refine Below.alloc ?_ ?_ _ | refine Below.drew ?_ | refine below_drewN ?_ _ | refine Below.setCell ?_ ?_ _ | refine below_via (by with_reducible assumption) ?_ ?_) | omega | (simp only [szs]; omega) | (simp only [szs] at *; omega))), ho'⟩
          case measure => (simp [intOf]; omega)
    · have hlt' : ¬ (i : Int) < (L.n : Int) := by omega
      obtain rfl : i = L.n := by omega
      obtain rfl : o = S := hI.out.symm.trans hS.out
      go_wp2
      go_ret
      exact ⟨rfl, hB⟩
end Go.Proofs.Ytdbolfmmlmoiaaa
