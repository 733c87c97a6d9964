/-
  The walks of bytes as numbers: package words' Number, and the document's own.
-/
import Derived.Test.YtoigpjaffggekabDoorKit
import Derived.Test.YtoigpjaffggekabDoorWords
import Derived.Laws.BytesArg
import Derived.OwnWalk
import Derived.WalkSpells
import Derived.Deep.DeepAppendRoom
namespace Go.Proofs.YtoigpjaffggekabDoor
open Go.RowKit Go.Proofs
set_option linter.unusedVariables false
set_option linter.unusedSimpArgs false

/-- n bytes, from a place on. -/
structure Bys (w : World) (b off n : Nat) (z : Nat → Nat) : Prop where
  lt : b < w.heap.size
  at_ : ∀ i, i < n → w.cell? ⟨b, off + i, none⟩ = some (.int .u8 (z i : Nat))
theorem Bys.below {w w1 : World} {B b off n : Nat} {z : Nat → Nat} (t : Bys w b off n z) (hb : Below B w w1) (h : b < B) : Bys w1 b off n z :=
  ⟨Nat.lt_of_lt_of_le t.lt hb.size, fun i hi => by rw [(bcell hb).1 b _ h]; exact t.at_ i hi⟩
theorem Bys.via {w w1 : World} {B b off n : Nat} {z : Nat → Nat} (hb : Below B w w1) (t : Bys w b off n z) (h : b < B) : Bys w1 b off n z := t.below hb h
theorem Bys.drew {w : World} {b off n : Nat} {z : Nat → Nat} (t : Bys w b off n z) : Bys w.drew b off n z := ⟨t.lt, t.at_⟩
theorem Bys.drewN {w : World} {b off n : Nat} {z : Nat → Nat} (t : Bys w b off n z) (k : Nat) : Bys (w.drewN k) b off n z := ⟨t.lt, t.at_⟩
theorem Bys.alloc {w : World} {b off n : Nat} {z : Nat → Nat} (t : Bys w b off n z) (o : Obj) : Bys (w.alloc o) b off n z := t.below ((Below.refl w.heap.size w).alloc (Nat.le_refl _) o) t.lt
theorem Bys.far {w : World} {b off n b' : Nat} {z : Nat → Nat} (t : Bys w b off n z) (h : b' ≠ b) (o : Nat) (v : Value) : Bys (w.setCell ⟨b', o, none⟩ v) b off n z :=
  ⟨by simp [t.lt], fun i hi => by rw [World.cell?_setCell_other _ _ _ _ (by simp [h]), t.at_ i hi]⟩
theorem Bys.less {w : World} {b off n m : Nat} {z : Nat → Nat} (t : Bys w b off n z) (h : m ≤ n) : Bys w b off m z := ⟨t.lt, fun i hi => t.at_ i (by omega)⟩
theorem Bys.more {w : World} {b off n : Nat} {z : Nat → Nat} (t : Bys w b off n z) (k m : Nat) (h : k + m ≤ n) : Bys w b (off + k) m (fun i => z (k + i)) :=
  ⟨t.lt, fun i hi => by rw [Nat.add_assoc]; exact t.at_ (k + i) (by omega)⟩


theorem or_byte (n x : Nat) (hn : n < 72057594037927936) (hx : x < 256) : bits .or .u64 ((n : Int) * 256) (x : Int) = ((256 * n + x : Nat) : Int) := by
  have h := bits_or_u64_nat (256 * n) x (by omega) (by omega)
  have e : 256 * n ||| x = 256 * n + x := (Nat.two_pow_add_eq_or_of_lt (i := 8) (show x < 2 ^ 8 from hx) n).symm
  rw [e] at h
  have e2 : ((256 * n : Nat) : Int) = (n : Int) * 256 := by omega
  rw [e2] at h
  exact h

set_option maxHeartbeats 400000 in
theorem numberW (b off cap : Nat) (z : Nat → Nat) (hz : ∀ i, z i < 256) (w : World) (hB : Bys w b off 8 z) :
    Calls Tryd.prog 22 #[.slice (some ⟨b, off, none⟩) 8 cap] w fun e w' => e = .returned (.int .u64 (Ob.num z 8 : Nat)) ∧ w = w' := by
  have hc := hB.at_
  clear hB
  go_enter Tryd.func22, Tryd.ntmps22
  go_wp2
  go_loop [3, 8] (fun sn si => ∃ k : Nat, k ≤ 8 ∧ si = .int .i64 k ∧ sn = .int .u64 (Ob.num z k : Nat)) (fun _ si => 8 - (intOf si).toNat)
  case atStart => exact ⟨0, by omega, rfl, rfl⟩
  case round =>
    obtain ⟨k, hk, rfl, rfl⟩ := hrel
    by_cases hlt : k < 8
    · have hck := hc k hlt
      clear hc
      have hb := Ob.num_small z hz k (by omega)
      have hzk := hz k
      have hor := or_byte _ _ hb hzk
      have hn : Hid (Ob.num z (k + 1) = 256 * Ob.num z k + z k) := rfl
      generalize Ob.num z k = N at hb hn hor ⊢
      generalize z k = zk at hck hzk hn hor
      clear hz
      go_wp2
      go_round
      case rel => exact ⟨k + 1, by omega, by go_num, by rw [hn.out]; go_num⟩
      case measure => simp [intOf]; omega
    · obtain rfl : k = 8 := by omega
      clear hc
      go_wp2
      go_ret
      exact ⟨rfl, rfl⟩

theorem byteInfo : ∃ i, Tryd.prog.info? 5 = some i ∧ i.size = 1 ∧ i.bytes = 1 ∧ i.zero = some (.int .u8 0) := by
  have h : (Tryd.prog.info? 5).map (fun i => (i.size, i.bytes, i.zero)) = some (1, 1, some (.int .u8 0)) := by kernel_rfl
  cases hi : Tryd.prog.info? 5 with
  | none => rw [hi] at h; cases h
  | some i =>
    rw [hi] at h
    simp only [Option.map_some, Option.some.injEq, Prod.mk.injEq] at h
    exact ⟨i, rfl, h.1, h.2.1, h.2.2⟩

/-- The values of bytes. -/
def vals (z : Nat → Nat) (n : Nat) : List Value := (List.range n).map fun i => .int .u8 (z i : Nat)
theorem vals_zero (z : Nat → Nat) : vals z 0 = [] := rfl
theorem vals_succ (z : Nat → Nat) (n : Nat) : vals z (n + 1) = vals z n ++ [.int .u8 (z n : Nat)] := by simp [vals, List.range_succ]
theorem vals_get (z : Nat → Nat) (n i : Nat) (h : i < n) : (vals z n)[i]? = some (.int .u8 (z i : Nat)) := by simp [vals, h]

/-- A row of the call's own, as bytes. -/
theorem bys_of_row {w : World} {base n cap g : Nat} {z : Nat → Nat} (h : w.ownsRow base 5 1 (.slice (some ⟨g, 0, none⟩) n cap) n (vals z n)) : Bys w g 0 n z := by
  refine ⟨(h.lt g rfl).2, fun i hi => ?_⟩
  have := h.cells (g := g) rfl i _ (vals_get z n i hi)
  have hadd : (⟨g, 0, none⟩ : Addr).add i = ⟨g, 0 + i, none⟩ := by unfold Addr.add; split <;> simp_all
  rw [hadd] at this
  exact this
theorem free_of_row {w : World} {base n cap g : Nat} {xs : List Value} (h : w.ownsRow base 5 1 (.slice (some ⟨g, 0, none⟩) n cap) n xs) (o : Nat) : w.frozen? ⟨g, o, none⟩ = false := by
  rcases h.2 with ⟨h0, _⟩ | ⟨g', cap', cur, hv, _, hg, _⟩
  · cases h0
  · cases hv
    simp [World.frozen?, hg]

/-- Bytes that lie in memory, as the cells that an append takes. -/
theorem bys_news {w : World} {b off n : Nat} {z : Nat → Nat} (h : Bys w b off n z) : ∀ j u, (vals z n)[j]? = some u → w.cell? ((⟨b, off, none⟩ : Addr).add j) = some u := by
  intro j u hu
  have hj : j < n := by
    rcases Nat.lt_or_ge j n with h1 | h1
    · exact h1
    · have : (vals z n)[j]? = none := List.getElem?_eq_none (by simp [vals]; exact h1)
      rw [this] at hu
      cases hu
  rw [vals_get z n j hj] at hu
  cases hu
  have hadd : (⟨b, off, none⟩ : Addr).add j = ⟨b, off + j, none⟩ := by unfold Addr.add; split <;> simp_all
  rw [hadd]
  exact h.at_ j hj
theorem vals_one (z : Nat → Nat) (n : Nat) : ∀ u ∈ vals z n, u.oneCell' = true := by
  intro u hu
  simp only [vals, List.mem_map] at hu
  obtain ⟨i, _, rfl⟩ := hu
  rfl

/-- Byte number i of the numbers ns, one behind the other. -/
def byteOf (ns : Nat → Nat) (i : Nat) : Nat := Ob.byteAt (ns (i / 8)) (i % 8)

theorem shr_byte (n j : Nat) (hj : j < 8) (hn : n < 18446744073709551616) : IntKind.u8.wrap ((n : Int) / 2 ^ (56 - 8 * j)) = ((Ob.byteAt n j : Nat) : Int) := by
  have e : (2 : Nat) ^ (56 - 8 * j) = 256 ^ (7 - j) := by
    have : 56 - 8 * j = 8 * (7 - j) := by omega
    rw [this, Nat.pow_mul]
  have e1 : (n : Int) / 2 ^ (56 - 8 * j) = ((n / 2 ^ (56 - 8 * j) : Nat) : Int) := by simp
  rw [e1, e, IntKind.wrap_u8]
  unfold Ob.byteAt
  omega

set_option maxRecDepth 4000 in
set_option maxHeartbeats 1000000 in
theorem bytesW (b off k cap : Nat) (ns : Nat → Nat) (hns : ∀ i, ns i < 18446744073709551616) (w : World) (hk : k ≤ 1000000) (hc : ∀ i, i < k → w.cell? ⟨b, off + i, none⟩ = some (.int .u64 (ns i : Nat))) (hbw : b < w.heap.size) :
    Calls Tryd.prog 25 #[.slice (some ⟨b, off, none⟩) k cap] w fun e w' => e = .returned (.slice (some ⟨w.heap.size, 0, none⟩) (8 * k) (8 * k)) ∧ w'.ownsRow w.heap.size 5 1 (.slice (some ⟨w.heap.size, 0, none⟩) (8 * k) (8 * k)) (8 * k) (vals (byteOf ns) (8 * k)) ∧ Below w.heap.size w w' := by
  obtain ⟨i0, hi, hz1, hz2, hz0⟩ := byteInfo
  have hm : 8 * k ≤ maxLen := by unfold maxLen; omega
  go_enter Tryd.func25, Tryd.ntmps25
  go_wp2_with (at_make; refine wpList_make_own _ rfl _ _ 35 rfl w.heap.size 5 i0 _ 1 Tryd.underlying35 hi hz0 hz1 _ _ _ (8 * k) rfl rfl (by omega) (by rw [hz2]; omega) hm (Nat.le_refl _) ?_; intro w0 hown0 hgrow0)
  have hB0 : Below w.heap.size w w0 := (Below.refl _ _).grown hgrow0 (Nat.le_refl _) (fun k h => by cases h)
  clear hgrow0
  go_loopw [3, 13] (fun sb si wr => ∃ i : Nat, i ≤ k ∧ si = .int .i64 i ∧ sb = .slice (some ⟨w.heap.size, 0, none⟩) (8 * i) (8 * k) ∧ wr.ownsRow w.heap.size 5 1 (.slice (some ⟨w.heap.size, 0, none⟩) (8 * i) (8 * k)) (8 * i) (vals (byteOf ns) (8 * i)) ∧ Below w.heap.size w wr) (fun _ si _ => k - (intOf si).toNat)
  case atStart => exact ⟨0, by omega, rfl, rfl, hown0, hB0⟩
  case round =>
    obtain ⟨i, hik, rfl, rfl, hown, hB⟩ := hrel
    clear hown0 hB0
    by_cases hlt : i < k
    · have hci : wr.cell? ⟨b, off + i, none⟩ = some (.int .u64 (ns i : Nat)) := by rw [(bcell hB).1 b _ hbw]; exact hc i hlt
      have hni := hns i
      have hby : ∀ j, j < 8 → Hid (byteOf ns (8 * i + j) = Ob.byteAt (ns i) j) := fun j hj => by
        show byteOf ns (8 * i + j) = Ob.byteAt (ns i) j
        unfold byteOf
        have e1 : (8 * i + j) / 8 = i := by omega
        have e2 : (8 * i + j) % 8 = j := by omega
        rw [e1, e2]
      have hsh := fun j (hj : j < 8) => shr_byte (ns i) j hj hni
      generalize ns i = n at hci hni hby hsh
      go_wp2_with fail
      go_loopw [3, 6] (fun sb ss wq => ∃ j : Nat, j ≤ 8 ∧ ss = .int .i64 (56 - 8 * (j : Int)) ∧ sb = .slice (some ⟨w.heap.size, 0, none⟩) (8 * i + j) (8 * k) ∧ wq.ownsRow w.heap.size 5 1 (.slice (some ⟨w.heap.size, 0, none⟩) (8 * i + j) (8 * k)) (8 * i + j) (vals (byteOf ns) (8 * i + j)) ∧ Below w.heap.size w wq) (fun _ ss _ => (intOf ss + 8).toNat)
      case atStart => exact ⟨0, by omega, rfl, rfl, hown, hB⟩
      case round =>
        obtain ⟨j, hj, rfl, rfl, hown1, hB1⟩ := hrel
        clear hown hB hci
        by_cases hj8 : j < 8
        · have hs := hsh j hj8
          have hv := hby j hj8
          clear hsh hby hc
          have hown2 := hown1.alloc (.cells #[.int .u8 (Ob.byteAt n j : Nat)] 5)
          have hroom : 8 * i + j + 1 ≤ 8 * k := by omega
          have hj0 : (0 : Int) ≤ 56 - 8 * (j : Int) := by omega
          go_wp2_with (at_builtin; refine wpList_append_own_spare _ rfl _ _ 35 rfl w.heap.size 5 i0 1 Tryd.underlying35 hi hz1 w.heap.size (8 * i + j) (8 * k) _ rfl hown2 ⟨wr.heap.size, 0, none⟩ 1 1 [.int .u8 (Ob.byteAt n j : Nat)] rfl rfl (cell_one_new _ _ _) (by simp [Value.oneCell']) hroom ?_; intro w1 hown3 hgrow1)
          rw [← hv.out, ← vals_succ] at hown3
          have hB2 : Below w.heap.size w w1 := (hB1.alloc hB1.size _).grown hgrow1 (by have := hB1.size; simp only [World.size_alloc]; omega) (fun k h => by cases h; exact Nat.le_refl _)
          go_roundw
          case rel => exact ⟨j + 1, by omega, val_int (by omega), rfl, hown3, hB2⟩
          case measure => simp [intOf]; omega
        · obtain rfl : j = 8 := by omega
          clear hsh hby
          go_wp2
          go_roundw
          case rel => exact ⟨i + 1, by omega, by go_num, rfl, hown1, hB1⟩
          case measure => simp [intOf]; omega
    · obtain rfl : i = k := by omega
      go_wp2
      go_ret
      exact ⟨rfl, hown, hB⟩

theorem run_make8 (w : World) : (Instr.makeSlice 35 (.int .i64 8) (.int .i64 8)).run Tryd.prog w = .ok (.slice (some ⟨w.heap.size, 0, none⟩) 8 8) (w.alloc (.cells #[.int .u8 0, .int .u8 0, .int .u8 0, .int .u8 0, .int .u8 0, .int .u8 0, .int .u8 0, .int .u8 0] 5)) := by
  obtain ⟨i0, hi, hz1, hz2, hz0⟩ := byteInfo
  have h := run_make (P := Tryd.prog) w 35 5 i0 _ Tryd.underlying35 hi hz0 .i64 .i64 8 8 (by omega) (by omega) (by rw [hz2]; decide) (by omega)
  rw [hz1] at h
  have e : madeCells (Value.int .u8 0).cells (Int.toNat 8 * 1) = #[.int .u8 0, .int .u8 0, .int .u8 0, .int .u8 0, .int .u8 0, .int .u8 0, .int .u8 0, .int .u8 0] := by kernel_rfl
  rw [e] at h
  exact h

set_option maxHeartbeats 2000000 in
set_option maxRecDepth 4000 in
theorem rbytesW (n : Nat) (hn : n < 18446744073709551616) (w : World) :
    Calls Tryd.prog 26 #[.int .u64 n] w fun e w' => e = .returned (.slice (some ⟨w.heap.size, 0, none⟩) 8 8) ∧ Bys w' w.heap.size 0 8 (Ob.byteAt n) ∧ Below w.heap.size w w' := by
  have hmk := run_make8
  go_enter Tryd.func26, Tryd.ntmps26
  go_wp2
  go_rounds 9
  go_ret
  refine ⟨rfl, ⟨by simp, fun i hi => ?_⟩, by (repeat' (first | (with_reducible first | exact Below.refl _ _ | assumption | refine Below.alloc ?_ ?_ _ | refine Below.drew ?_ | refine below_drewN ?_ _ | refine Below.setCell ?_ ?_ _ | refine below_via (by with_reducible assumption) ?_ ?_) | omega | (simp only [szs]; omega) | (simp only [szs] at *; omega)))⟩
  rw [Nat.zero_add, World.cell?_alloc_new]
  have h8 : i = 0 ∨ i = 1 ∨ i = 2 ∨ i = 3 ∨ i = 4 ∨ i = 5 ∨ i = 6 ∨ i = 7 := by omega
  rcases h8 with rfl | rfl | rfl | rfl | rfl | rfl | rfl | rfl
  all_goals
    refine congrArg some (val_int ?_)
    simp only [Ob.byteAt]
    omega

/-- The numbers of bytes, as a list. -/
def nums (z : Nat → Nat) (n : Nat) : List Int := (List.range n).map fun i => (z i : Int)
/-- A slice of bytes, told as a string. -/
theorem bys_str (b off n cap : Nat) (z : Nat → Nat) (w : World) (h : Bys w b off n z) : (convert 35 9 (.slice (some ⟨b, off, none⟩) n cap)).run Tryd.prog w = .ok (.string (strOfNums (nums z n))) w := by
  refine run_convert_bytes_arg w 35 5 Tryd.underlying35 Tryd.underlying5 b off n cap (nums z n) (by simp [nums]) (fun i hi => ?_) 9 Tryd.underlying9
  rw [h.at_ i hi]
  simp [nums, hi]
theorem nums_add (z : Nat → Nat) (m n : Nat) : nums z (m + n) = nums z m ++ nums (fun i => z (m + i)) n := by
  simp [nums, List.range_add]
theorem nums_congr (y z : Nat → Nat) (n : Nat) (h : ∀ i, i < n → y i = z i) : nums y n = nums z n := by
  simp only [nums]
  refine List.map_congr_left fun i hi => ?_
  rw [h i (List.mem_range.mp hi)]
theorem strOfNums_append (x y : List Int) : strOfNums x ++ strOfNums y = strOfNums (x ++ y) := by
  apply ByteArray.ext
  simp [strOfNums, ByteArray.data_append]

/-- n bytes of the call's own, that may be written. -/
structure Wby (w : World) (g n : Nat) : Prop where
  at_ : ∀ j, j < n → ∃ v : Nat, v < 256 ∧ w.cell? ⟨g, j, none⟩ = some (.int .u8 v)
  free : ∀ o, w.frozen? ⟨g, o, none⟩ = false
  lt : g < w.heap.size
theorem Wby.of_bys {w : World} {g n : Nat} {z : Nat → Nat} (hz : ∀ i, z i < 256) (h : Bys w g 0 n z) (f : ∀ o, w.frozen? ⟨g, o, none⟩ = false) : Wby w g n :=
  ⟨fun j hj => ⟨z j, hz j, by have := h.at_ j hj; rw [Nat.zero_add] at this; exact this⟩, f, h.lt⟩
theorem Wby.set {w : World} {g n k : Nat} (h : Wby w g n) (v : Nat) (hv : v < 256) (hk : k < n) : Wby (w.setCell ⟨g, k, none⟩ (.int .u8 v)) g n := by
  refine ⟨fun j hj => ?_, fun o => by simp [h.free o], by simp [h.lt]⟩
  by_cases e : j = k
  · subst e
    obtain ⟨u, _, hc⟩ := h.at_ j hj
    exact ⟨v, hv, World.cell?_setCell_same _ _ _ hc⟩
  · obtain ⟨u, hu, hc⟩ := h.at_ j hj
    exact ⟨u, hu, by rw [World.cell?_setCell_other _ _ _ _ (fun h => e (by injection h with _ h2; exact h2.symm)), hc]⟩
theorem Wby.below {w w1 : World} {B g n : Nat} (t : Wby w g n) (hb : Below B w w1) (h : g < B) : Wby w1 g n :=
  ⟨fun j hj => by obtain ⟨v, hv, hc⟩ := t.at_ j hj; exact ⟨v, hv, by rw [(bcell hb).1 g _ h]; exact hc⟩, fun o => by rw [(bcell hb).2 g o h]; exact t.free o, Nat.lt_of_lt_of_le t.lt hb.size⟩
theorem wrap_succ (v : Nat) : IntKind.u8.wrap ((v : Int) + 1) = (((v + 1) % 256 : Nat) : Int) := by rw [IntKind.wrap_u8]; omega
/-- A row of one's own is kept by calls that turn nothing that was there. -/
theorem own_below {w w1 : World} {B base n size : Nat} {e : TypeId} {v : Value} {xs : List Value} (h : w.ownsRow base e size v n xs) (hb : Below B w w1) (hl : ∀ k, v.ownBlock = some k → k < B) : w1.ownsRow base e size v n xs := by
  refine ⟨h.1, ?_⟩
  rcases h.2 with h0 | ⟨g, cap, cur, hv, h1, h2, h3⟩
  · exact .inl h0
  · exact .inr ⟨g, cap, cur, hv, h1, by rw [hb.block g (hl g (by rw [hv]; rfl))]; exact h2, h3⟩
theorem vals_cons (z : Nat → Nat) (n : Nat) : .int .u8 (z 0 : Nat) :: vals (fun i => z (1 + i)) n = vals z (1 + n) := by
  simp [vals, List.range_add]
theorem vals_add (z : Nat → Nat) (m n : Nat) : vals z m ++ vals (fun i => z (m + i)) n = vals z (m + n) := by
  simp [vals, List.range_add]
theorem vals_congr (y z : Nat → Nat) (n : Nat) (h : ∀ i, i < n → y i = z i) : vals y n = vals z n := by
  simp only [vals]
  refine List.map_congr_left fun i hi => ?_
  rw [h i (List.mem_range.mp hi)]
/-- The room behind a row. -/
theorem cap_of_row {w : World} {base n cap g : Nat} {xs : List Value} (h : w.ownsRow base 5 1 (.slice (some ⟨g, 0, none⟩) n cap) n xs) : n ≤ cap ∧ cap ≤ maxLen := by
  rcases h.2 with ⟨h0, _⟩ | ⟨g', cap', cur, hv, _, _, h1, h2, _⟩
  · cases h0
  · cases hv; exact ⟨h1, h2⟩
/-- Two numbers, one behind the other. -/
def pair (x y : Nat) (i : Nat) : Nat := if i = 0 then x else y
theorem pair_lt (x y : Nat) (hx : x < 18446744073709551616) (hy : y < 18446744073709551616) (i : Nat) : pair x y i < 18446744073709551616 := by unfold pair; split <;> assumption
theorem pair_cells (W : World) (x y : Nat) (t : TypeId) : ∀ i, i < 2 → (W.alloc (.cells #[.int .u64 x, .int .u64 y] t)).cell? ⟨W.heap.size, 0 + i, none⟩ = some (.int .u64 (pair x y i : Nat)) := by
  intro i hi
  rw [Nat.zero_add, World.cell?_alloc_new]
  have h : i = 0 ∨ i = 1 := by omega
  rcases h with rfl | rfl <;> rfl
end Go.Proofs.YtoigpjaffggekabDoor
