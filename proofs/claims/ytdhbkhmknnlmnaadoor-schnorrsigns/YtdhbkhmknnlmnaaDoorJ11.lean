/-
  Joined texts: The document's own digest, walked: words as bytes; the number of bytes. A copy of bytes that came in: append onto an empty row. Rows of bytes that grow byte by byte, whatever mark they bear. The document's own digest, walked: the head of Sum. The question that layer 9's statements ask by themselves. The walks of layer 9's statements on points and on signatures. What the rows of this seat share: the tables that are laid, and the start that fits. How points of the Edwards curve that came in are opened. What the rows of layer 9's seat share: signatures that came in.
-/
import Derived.Test.YtdhbkhmknnlmnaaDoorJ3
import Derived.Test.YtdhbkhmknnlmnaaDoorJ2
import Derived.Deep.AppendLies
import Derived.Deep.AppendSrc
import Derived.Laws.IdiomStrings
import Derived.Test.YtdhbkhmknnlmnaaDoorJ10
import Derived.Test.YtdhbkhmknnlmnaaDoorJ5
import Derived.Test.YtdhbkhmknnlmnaaDoorJ8
import Derived.Test.YtdhbkhmknnlmnaaDoorJ1
import Derived.LaidMore
import Derived.Lib.LaidTab
import Derived.Stop.Joined
import Derived.Lib.SmallJoins

namespace Go.Proofs.YtdhbkhmknnlmnaaDoor
open Go.RowKit Go.Proofs
set_option linter.unusedVariables false
set_option linter.unusedSimpArgs false
attribute [local go_sem ↓] Go.wp_at_zero Go.wp_at_succ

set_option maxHeartbeats 4000000 in
theorem rbytes_core (b k c : Nat) (ns : Nat → Nat) (hns : Ob.Words32 ns) (hk : k ≤ 1000000) (w : World) (hc : Rd w .u32 b k ns) :
    Calls Tryd.prog 53 #[.slice (some ⟨b, 0, none⟩) k c] w fun e w' => ∃ v, e = .returned v ∧ w'.ownsRow w.heap.size 5 1 v (4 * k) (vals (lowBy ns) (4 * k)) ∧ Below w.heap.size w w' := by
  obtain ⟨i0, hi, hz1, hz2, hz0⟩ := byteInfo
  have hc' : Hid (Rd w .u32 b k ns) := hc
  have hn' : Hid (Ob.Words32 ns) := hns
  clear hc hns
  have hown0 : w.ownsRow w.heap.size 5 1 (.slice none 0 0) 0 (vals (lowBy ns) 0) := ⟨rfl, Or.inl ⟨rfl, rfl⟩⟩
  go_enter Tryd.func53, Tryd.ntmps53
  go_wp2
  go_loopw [3, 4] (fun s3 s4 wr => ∃ (i : Nat), i ≤ k ∧ s4 = .int .i64 (i : Nat) ∧ Hid (wr.ownsRow w.heap.size 5 1 s3 (4 * i) (vals (lowBy ns) (4 * i))) ∧ Below w.heap.size w wr) (fun _ s4 _ => k - (intOf s4).toNat)
  case atStart => exact ⟨0, by omega, rfl, hown0, Below.refl _ _⟩
  case round =>
    clear hown0
    obtain ⟨i, hik, rfl, hown, hB⟩ := hrel
    have l0 := hB.size
    by_cases hlt : i < k
    · have hni := hn'.out i
      have e0 : Hid (lowBy ns (4 * i) = ns i % 256) := by have := lowBy_at ns i 0 (by decide); rw [Nat.add_zero, Nat.pow_zero, Nat.div_one] at this; exact this
      have e1 : Hid (lowBy ns (4 * i + 1) = ns i / 256 % 256) := lowBy_at ns i 1 (by decide)
      have e2 : Hid (lowBy ns (4 * i + 2) = ns i / 65536 % 256) := lowBy_at ns i 2 (by decide)
      have e3 : Hid (lowBy ns (4 * i + 3) = ns i / 16777216 % 256) := lowBy_at ns i 3 (by decide)
      have hkeep : Hid (∀ w1, Below w.heap.size w w1 → w1.cell? ⟨b, i, none⟩ = some (.int .u32 (ns i : Nat))) := fun w1 h => (hc'.out.below h hc'.out.lt).c i hlt
      obtain ⟨n, hn⟩ : ∃ n, Hid (ns i = n) := ⟨_, rfl⟩
      rw [hn.out] at hni e0 e1 e2 e3 hkeep
      obtain ⟨b0, f0, g0⟩ : ∃ x : Nat, Hid (n % 256 = x) ∧ IntKind.u8.wrap (n : Int) = (x : Int) := ⟨_, rfl, by rw [IntKind.wrap_u8]; omega⟩
      obtain ⟨b1, f1, g1⟩ : ∃ x : Nat, Hid (n / 256 % 256 = x) ∧ IntKind.u8.wrap ((n : Int) / 256) = (x : Int) := ⟨_, rfl, by rw [IntKind.wrap_u8]; omega⟩
      obtain ⟨b2, f2, g2⟩ : ∃ x : Nat, Hid (n / 65536 % 256 = x) ∧ IntKind.u8.wrap ((n : Int) / 65536) = (x : Int) := ⟨_, rfl, by rw [IntKind.wrap_u8]; omega⟩
      obtain ⟨b3, f3, g3⟩ : ∃ x : Nat, Hid (n / 16777216 % 256 = x) ∧ IntKind.u8.wrap ((n : Int) / 16777216) = (x : Int) := ⟨_, rfl, by rw [IntKind.wrap_u8]; omega⟩
      rw [f0.out] at e0
      rw [f1.out] at e1
      rw [f2.out] at e2
      rw [f3.out] at e3
      have i0' : (i : Int) < (k : Int) := by omega
      have i1' : (0 : Int) ≤ (i : Int) := by omega
      have hv : Hid (vals (lowBy ns) (4 * i) ++ [.int .u8 (b0 : Nat), .int .u8 (b1 : Nat), .int .u8 (b2 : Nat), .int .u8 (b3 : Nat)] = vals (lowBy ns) (4 * (i + 1))) := by
        show _ = _
        rw [show 4 * (i + 1) = 4 * i + 1 + 1 + 1 + 1 by omega, vals_succ, vals_succ, vals_succ, vals_succ, e0.out, e1.out, show 4 * i + 1 + 1 = 4 * i + 2 by omega, e2.out, show 4 * i + 2 + 1 = 4 * i + 3 by omega, e3.out]
        simp
      have hb1 : Below wr.heap.size wr (wr.alloc (.cells #[.int .u8 (b0 : Nat), .int .u8 (b1 : Nat), .int .u8 (b2 : Nat), .int .u8 (b3 : Nat)] 5)).drew := by clear hB; (repeat' (first | (with_reducible first | exact Below.refl _ _ | assumption | refine Below.alloc ?_ ?_ _ | refine Below.drew ?_ | refine below_drewN ?_ _ | refine Below.setCell ?_ ?_ _ | refine below_via (by with_reducible assumption) ?_ ?_) | omega | (simp only [szs]; omega) | (simp only [szs] at *; omega)))
      have hb0 : Below w.heap.size w (wr.alloc (.cells #[.int .u8 (b0 : Nat), .int .u8 (b1 : Nat), .int .u8 (b2 : Nat), .int .u8 (b3 : Nat)] 5)).drew := by clear hb1; (repeat' (first | (with_reducible first | exact Below.refl _ _ | assumption | refine Below.alloc ?_ ?_ _ | refine Below.drew ?_ | refine below_drewN ?_ _ | refine Below.setCell ?_ ?_ _ | refine below_via (by with_reducible assumption) ?_ ?_) | omega | (simp only [szs]; omega) | (simp only [szs] at *; omega)))
      have hown1 : Hid ((wr.alloc (.cells #[.int .u8 (b0 : Nat), .int .u8 (b1 : Nat), .int .u8 (b2 : Nat), .int .u8 (b3 : Nat)] 5)).drew.ownsRow w.heap.size 5 1 u3 (4 * i) (vals (lowBy ns) (4 * i))) := own_below hown.out hb1 (fun k h => (hown.out.lt k h).2)
      have hnews : Hid (∀ (j : Nat) (u : Value), [Value.int .u8 (b0 : Nat), .int .u8 (b1 : Nat), .int .u8 (b2 : Nat), .int .u8 (b3 : Nat)][j]? = some u → (wr.alloc (.cells #[.int .u8 (b0 : Nat), .int .u8 (b1 : Nat), .int .u8 (b2 : Nat), .int .u8 (b3 : Nat)] 5)).drew.cell? ((⟨wr.heap.size, 0, none⟩ : Addr).add j) = some u) := fun j u h => by
        rw [Addr.add_mid, Nat.zero_add]
        show (wr.alloc (.cells #[.int .u8 (b0 : Nat), .int .u8 (b1 : Nat), .int .u8 (b2 : Nat), .int .u8 (b3 : Nat)] 5)).cell? ⟨wr.heap.size, j, none⟩ = some u
        rw [World.cell?_alloc_new, List.getElem?_toArray]
        exact h
      go_wp2
      go_region_held3 (fun w' => w'.cell? ⟨b, i, none⟩ = some (.int .u32 (n : Nat))) (first | exact hkeep.out _ hBw | exact hkeep.out _ (by (repeat' (first | (with_reducible first | exact Below.refl _ _ | assumption | refine Below.alloc ?_ ?_ _ | refine Below.drew ?_ | refine below_drewN ?_ _ | refine Below.setCell ?_ ?_ _ | refine below_via (by with_reducible assumption) ?_ ?_) | omega | (simp only [szs]; omega) | (simp only [szs] at *; omega)))))
        ((rw [if_pos (by rfl)]; (refine wp_append_own _ _ _ 34 rfl w.heap.size 5 i0 _ 1 1 Tryd.underlying34 hi hz0 hz1 hz2 rfl (by decide) _ (4 * i) _ rfl hown1.out ⟨wr.heap.size, 0, none⟩ 4 4 [.int .u8 (b0 : Nat), .int .u8 (b1 : Nat), .int .u8 (b2 : Nat), .int .u8 (b3 : Nat)] rfl rfl hnews.out (by simp [Value.oneCell']) (by unfold maxLen; omega) (by omega) (by first | (simp; done) | (simp; omega)) ?_); intro v' w1 ho hg hnil; have hBw : Below w.heap.size w w1 := hb0.grown hg hb0.size (fun k h => (hown.out.lt k h).1); have ho' : Hid (w1.ownsRow w.heap.size 5 1 v' (4 * i + 4) (vals (lowBy ns) (4 * (i + 1)))) := (by rw [← hv.out]; exact ho); clear ho hg hnil))
      go_wp2
      go_roundw
      case rel => exact ⟨i + 1, by omega, by go_num, ho', hBw⟩
      case measure => first | (simp [intOf]; done) | (simp [intOf]; omega)
    · obtain rfl : i = k := by omega
      go_wp2
      go_ret
      exact ⟨_, rfl, hown.out, by (repeat' (first | (with_reducible first | exact Below.refl _ _ | assumption | refine Below.alloc ?_ ?_ _ | refine Below.drew ?_ | refine below_drewN ?_ _ | refine Below.setCell ?_ ?_ _ | refine below_via (by with_reducible assumption) ?_ ?_) | omega | (simp only [szs]; omega) | (simp only [szs] at *; omega)))⟩
/-- The bytes of words. -/
theorem rbytes32W (b k c : Nat) (ns : Nat → Nat) (hns : Ob.Words32 ns) (h0 : 0 < k) (hk : k ≤ 1000000) (w : World) (hc : Rd w .u32 b k ns) :
    Calls Tryd.prog 53 #[.slice (some ⟨b, 0, none⟩) k c] w fun e w' => ∃ g cap, e = .returned (.slice (some ⟨g, 0, none⟩) (4 * k) cap) ∧ w.heap.size ≤ g ∧ Bys w' g 0 (4 * k) (lowBy ns) ∧ Below w.heap.size w w' := by
  refine (rbytes_core b k c ns hns hk w hc).mono fun e w' ⟨v, he, ho, hb⟩ => ?_
  rcases ho.2 with ⟨_, h⟩ | ⟨g, cap, cur, rfl, hg, _⟩
  · omega
  · exact ⟨g, cap, he, hg, bys_of_row ho, hb⟩

/-- The same, and that there is room for them. -/
theorem rbytes32C (b k c : Nat) (ns : Nat → Nat) (hns : Ob.Words32 ns) (h0 : 0 < k) (hk : k ≤ 1000000) (w : World) (hc : Rd w .u32 b k ns) :
    Calls Tryd.prog 53 #[.slice (some ⟨b, 0, none⟩) k c] w fun e w' => ∃ g cap, e = .returned (.slice (some ⟨g, 0, none⟩) (4 * k) cap) ∧ w.heap.size ≤ g ∧ Bys w' g 0 (4 * k) (lowBy ns) ∧ Below w.heap.size w w' ∧ 4 * k ≤ cap := by
  refine (rbytes_core b k c ns hns hk w hc).mono fun e w' ⟨v, he, ho, hb⟩ => ?_
  rcases ho.2 with ⟨_, h⟩ | ⟨g, cap, cur, rfl, hg, _⟩
  · omega
  · exact ⟨g, cap, he, hg, bys_of_row ho, hb, (cap_of_row ho).1⟩

/-- The number of 8 bytes, the lowest first, from the last on. -/
def downN (z : Nat → Nat) : Nat → Nat
  | 0 => 0
  | k + 1 => 256 * downN z k + z (7 - k)
theorem downN_eq (z : Nat → Nat) : downN z 8 = Ob.lowN z 8 := by
  simp only [downN, Ob.lowN, Nat.reduceSub]
  omega
theorem downN_lt {z : Nat → Nat} (hz : ∀ i, z i < 256) : ∀ k, downN z k < 256 ^ k
  | 0 => by show 0 < 256 ^ 0; decide
  | k + 1 => by
    have h := downN_lt hz k
    have h1 := hz (7 - k)
    rw [downN, Nat.pow_succ]
    omega
set_option maxHeartbeats 1000000 in
theorem rnumW (b len cap : Nat) (hl : 8 ≤ len) (hlm : len ≤ 1000000) (z : Nat → Nat) (hz : ∀ i, z i < 256) (w : World) (hB : Bys w b 0 8 z) :
    Calls Tryd.prog 30 #[.slice (some ⟨b, 0, none⟩) len cap] w fun e w' => e = .returned (.int .u64 (Ob.lowN z 8 : Nat)) ∧ w = w' := by
  rw [← downN_eq]
  have hc := hB.at_
  clear hB
  go_enter Tryd.func30, Tryd.ntmps30
  go_wp2
  go_loop [3, 4] (fun sn si => ∃ k : Nat, k ≤ 8 ∧ si = .int .i64 (7 - (k : Int)) ∧ sn = .int .u64 (downN z k : Nat)) (fun _ si => (intOf si + 1).toNat)
  case atStart => exact ⟨0, by omega, rfl, rfl⟩
  case round =>
    obtain ⟨k, hk, rfl, rfl⟩ := hrel
    by_cases hlt : k < 8
    · have hck := hc (7 - k) (by omega)
      rw [Nat.zero_add] at hck
      clear hc
      have hb : downN z k < 72057594037927936 := Nat.lt_of_lt_of_le (downN_lt hz k) (Nat.le_trans (Nat.pow_le_pow_right (by decide) (show k ≤ 7 by omega)) (by decide))
      have hzk := hz (7 - k)
      have hn : Hid (downN z (k + 1) = 256 * downN z k + z (7 - k)) := rfl
      obtain ⟨j, hj, ej⟩ : ∃ j : Nat, Hid (7 - k = j) ∧ (7 : Int) - (k : Int) = (j : Int) := ⟨7 - k, rfl, by omega⟩
      rw [hj.out] at hck hzk hn
      rw [ej]
      have j0 : (0 : Int) ≤ (j : Int) := by omega
      have j1 : (j : Int) < (len : Int) := by have := hj.out; omega
      generalize downN z k = N at hb hn ⊢
      generalize z j = zk at hck hzk hn
      clear hz
      go_wp2
      go_round
      case rel => exact ⟨k + 1, by omega, by have := hj.out; go_num, by rw [hn.out]; go_num⟩
      case measure => first | (simp [intOf]; done) | (simp [intOf]; omega)
    · obtain rfl : k = 8 := by omega
      clear hc
      go_wp2
      go_ret
      exact ⟨rfl, rfl⟩
end Go.Proofs.YtdhbkhmknnlmnaaDoor

namespace Go.Proofs.YtdhbkhmknnlmnaaDoor
open Go.RowKit Go.Proofs
set_option linter.unusedVariables false
set_option linter.unusedSimpArgs false

theorem wpList_copyB {ops : Array Oper} {rest : List Oper} {o : Oper} {a : Act} {w : World} {Q : Exit → Act → World → Prop} (hgd : o.guard = none) (s x : Operand)
    (ho : o.op = .call { callee := .builtin .append, args := #[s, x], argTypes := #[34, 34] }) (base b0 : Nat) (hs : a.eval s = .slice (some ⟨b0, 0, none⟩) 0 0)
    (hown0 : w.ownsRow base 5 1 (.slice (some ⟨b0, 0, none⟩) 0 0) 0 []) (hbase : base ≤ w.heap.size) (ad : Option Addr) (n c : Nat) (z : Nat → Nat) (hx : a.eval x = .slice ad n c) (hS : Src w ad n z) (hn : n ≤ 1000000)
    (h : ∀ g cap w', w'.ownsRow base 5 1 (.slice (some ⟨g, 0, none⟩) n cap) n (vals z n) → Below base w w' → wpList Tryd.prog ops Q rest (a.put o.dst (.slice (some ⟨g, 0, none⟩) n cap)) w') : wpList Tryd.prog ops Q (o :: rest) a w := by
  obtain ⟨i0, hi, hz1, hz2, hz0⟩ := byteInfo
  by_cases h0 : n = 0
  · subst h0
    have src : Go.Src Tryd.prog i0.size 34 (.slice ad 0 c) 0 [] w := by
      cases ad with
      | none => exact Go.Src.ofNil w Tryd.underlying34 c
      | some a => exact Go.Src.ofSlice w Tryd.underlying34 a 0 c [] (by simp) (fun j u h => by simp at h) (fun u h => by cases h)
    have hr := run_append_room_src w 34 34 o.type 5 i0 Tryd.underlying34 hi b0 0 0 0 (.slice ad 0 c) 0 [] src (by omega) (fun j h => by simp at h) (fun j h => by simp at h)
    refine wpList_plain hgd fun K hK => ?_
    unfold Oper.wp execOp
    simp only [ho, resolve, invoke, builtin, Sem.run_bind, Sem.run_pure, Result.andThen_ok, List.map_toArray, List.map_cons, List.map_nil, hs, hx, hr]
    exact hK _ _ (h b0 0 w hown0 (Below.refl _ _))
  · rcases hS with h1 | ⟨b, off, rfl, hB⟩
    · exact absurd h1 h0
    refine wpList_append_lies _ hgd s x 34 ho base 5 i0 _ 1 1 Tryd.underlying34 hi hz0 hz1 hz2 rfl (by decide) _ 0 [] hs hown0 ⟨b, off, none⟩ n c (vals z n) hx (by simp [vals]) (bys_news hB) (vals_one z n) (by omega) (by unfold maxLen; omega) (by omega) hbase w.heap.size rfl ?_
    intro g cap w' hown hg _ _
    rw [Nat.zero_add, List.nil_append] at hown
    rw [Nat.zero_add]
    exact h g cap w' hown ((Below.refl base w).grown hg hbase (fun k hk => (hown0.lt k hk).1))
end Go.Proofs.YtdhbkhmknnlmnaaDoor

namespace Go.Proofs.YtdhbkhmknnlmnaaDoor
open Go.RowKit Go.Proofs
set_option linter.unusedVariables false
set_option linter.unusedSimpArgs false

/-- A row of the call's own: its first len cells are the bytes z, the others up to cap may be written. -/
structure PRow (w : World) (base g len cap : Nat) (z : Nat → Nat) : Prop where
  lb : base ≤ g
  lt : g < w.heap.size
  le : len ≤ cap
  c : ∀ j, j < len → w.cell? ⟨g, j, none⟩ = some (.int .u8 (z j : Nat))
  room : ∀ j, len ≤ j → j < cap → (w.cell? ⟨g, j, none⟩).isSome = true ∧ w.frozen? ⟨g, j, none⟩ = false
theorem PRow.below {w w1 : World} {B base g len cap : Nat} {z : Nat → Nat} (t : PRow w base g len cap z) (hb : Below B w w1) (h : g < B) : PRow w1 base g len cap z :=
  ⟨t.lb, Nat.lt_of_lt_of_le t.lt hb.size, t.le, fun j hj => by rw [(bcell hb).1 g j h]; exact t.c j hj, fun j h1 h2 => by rw [(bcell hb).1 g j h, (bcell hb).2 g j h]; exact t.room j h1 h2⟩
theorem PRow.bys {w : World} {base g len cap : Nat} {z : Nat → Nat} (t : PRow w base g len cap z) : Bys w g 0 len z := ⟨t.lt, fun i hi => by rw [Nat.zero_add]; exact t.c i hi⟩
theorem PRow.of_row {w : World} {base n cap g : Nat} {z : Nat → Nat} (h : w.ownsRow base 5 1 (.slice (some ⟨g, 0, none⟩) n cap) n (vals z n)) : PRow w base g n cap z := by
  have hb := bys_of_row h
  have hf := free_of_row h
  refine ⟨(h.lt g rfl).1, hb.lt, (cap_of_row h).1, fun j hj => by have := hb.at_ j hj; rwa [Nat.zero_add] at this, fun j h1 h2 => ⟨?_, hf j⟩⟩
  rcases h.2 with ⟨h0, _⟩ | ⟨g', cap', cur, hv, _, hg, _, _, hs, _⟩
  · cases h0
  · cases hv
    have : w.cell? ⟨g, j, none⟩ = cur[j]? := by simp [World.cell?, hg]
    rw [this, Array.getElem?_eq_getElem (by omega)]
    rfl

/-- A string's bytes. -/
theorem prow_str (w : World) (s : ByteArray) : ∃ cap w', (convert 9 34 (.string s)).run Tryd.prog w = .ok (.slice (some ⟨w.heap.size, 0, none⟩) s.size cap) w' ∧ PRow w' w.heap.size w.heap.size s.size cap (sby s) ∧ Below w.heap.size w w' := by
  have h := run_bytes_of_string (P := Tryd.prog) w 9 34 5 s Tryd.underlying9 Tryd.underlying34 Tryd.underlying5
  have hge := grownCap_ge w s.size 0 5
  generalize grownCap w s.size 0 5 = cap at h hge
  refine ⟨cap, _, h, ⟨Nat.le_refl _, by simp, hge, fun j hj => ?_, fun j h1 h2 => ?_⟩, ((Below.refl w.heap.size w).drew).alloc (by simp) _⟩
  · have hc : (w.drew.alloc (.cells (bytesRow s cap) 5 ((bytesRow s cap).size, (bytesRow s cap).size + 1))).cell? ⟨w.heap.size, j, none⟩ = (bytesRow s cap)[j]? := by
      have hs : w.drew.heap.size = w.heap.size := World.size_drew w
      simp only [World.cell?, World.alloc]
      rw [← hs, Array.getElem?_push_size]
      rfl
    rw [hc]
    have hj' : j < s.data.size := hj
    unfold bytesRow sby
    rw [Array.getElem?_append_left (by simpa using hj'), Array.getElem?_map, ← Array.getElem?_toList, List.getElem?_eq_getElem (by simpa using hj')]
    rfl
  · have hc : (w.drew.alloc (.cells (bytesRow s cap) 5 ((bytesRow s cap).size, (bytesRow s cap).size + 1))).cell? ⟨w.heap.size, j, none⟩ = (bytesRow s cap)[j]? := by
      have hs : w.drew.heap.size = w.heap.size := World.size_drew w
      simp only [World.cell?, World.alloc]
      rw [← hs, Array.getElem?_push_size]
      rfl
    have hsz : (bytesRow s cap).size = cap := by
      have : s.data.size = s.size := rfl
      unfold bytesRow
      rw [Array.size_append, Array.size_map, Array.size_replicate]
      omega
    refine ⟨by rw [hc, Array.getElem?_eq_getElem (by omega)]; rfl, ?_⟩
    have hs : w.drew.heap.size = w.heap.size := World.size_drew w
    simp only [World.frozen?, World.alloc]
    rw [← hs, Array.getElem?_push_size]
    simp [hsz]
    omega
theorem nextcap_one (n : Nat) (hn : n ≤ 1000000) : Builtin.nextslicecap (n + 1) n * 1 ≤ 281474976710656 := growslice_fits (by omega) (by omega)
/-- One byte more. -/
theorem prow_append {w : World} {base g len cap : Nat} {z : Nat → Nat} (t : PRow w base g len cap z) (hbase : base ≤ w.heap.size) (hn : len ≤ 1000000) (b1 c1 x : Nat) (hx : w.cell? ⟨b1, 0, none⟩ = some (.int .u8 (x : Nat))) (ty : TypeId) :
    ∃ g' cap' w', (Builtin.append_ #[34, 34] ty #[.slice (some ⟨g, 0, none⟩) len cap, .slice (some ⟨b1, 0, none⟩) 1 c1]).run Tryd.prog w = .ok (.slice (some ⟨g', 0, none⟩) (len + 1) cap') w' ∧ PRow w' base g' (len + 1) cap' (Ob.upd z len x) ∧ Below base w w' := by
  obtain ⟨i0, hi, hz1, hz2, hz0⟩ := byteInfo
  have src : Go.Src Tryd.prog i0.size 34 (.slice (some ⟨b1, 0, none⟩) 1 c1) 1 [.int .u8 (x : Nat)] w :=
    Go.Src.ofSlice w Tryd.underlying34 _ 1 c1 _ (by rw [hz1]; rfl) (fun j u h => by
      cases j with
      | zero => simp at h; subst h; rw [Addr.add_mid]; exact hx
      | succ j => simp at h) (fun u hu => by simp at hu; subst hu; rfl)
  by_cases hc : len < cap
  · have h := run_append_room_src w 34 34 ty 5 i0 Tryd.underlying34 hi g 0 len cap _ 1 _ src (by omega)
      (fun j hj => by
        have : j = 0 := by simp at hj; omega
        subst this
        rw [hz1, Nat.zero_add, Nat.mul_one, Nat.add_zero]
        exact (t.room len (Nat.le_refl _) hc).1)
      (fun j hj => by
        have : j = 0 := by simp at hj; omega
        subst this
        rw [hz1, Nat.zero_add, Nat.mul_one, Nat.add_zero]
        exact (t.room len (Nat.le_refl _) hc).2)
    rw [hz1, Nat.zero_add, Nat.mul_one] at h
    refine ⟨g, cap, _, h, ⟨t.lb, by simp [World.setCells, t.lt], by omega, fun j hj => ?_, fun j h1 h2 => ?_⟩, ?_⟩
    · by_cases e : j = len
      · subst e
        rw [Ob.upd_same]
        obtain ⟨u, hu⟩ := Option.isSome_iff_exists.1 (t.room j (Nat.le_refl _) hc).1
        exact World.cell?_setCell_same _ _ _ hu
      · rw [Ob.upd_ne _ _ e]
        show (w.setCell ⟨g, len, none⟩ _).cell? _ = _
        rw [World.cell?_setCell_other _ _ _ _ (by first | (simp; done) | (simp; omega))]
        exact t.c j (by omega)
    · show ((w.setCell ⟨g, len, none⟩ _).cell? _).isSome = true ∧ (w.setCell ⟨g, len, none⟩ _).frozen? _ = false
      rw [World.cell?_setCell_other _ _ _ _ (by first | (simp; done) | (simp; omega)), World.frozen?_setCell]
      exact t.room j (by omega) h2
    · exact (Below.refl base w).setCell t.lb _
  · have e : cap = len := by have := t.le; omega
    subst e
    have hold := run_firstCells_some (P := Tryd.prog) w.drew i0.size cap ⟨g, 0, none⟩ cap cap (vals z cap) (by rw [hz1]; simp [vals]) (fun j u h => by
      have := bys_news t.bys j u h
      exact this)
    have h := run_append_grow_src w 34 34 ty 5 i0 _ Tryd.underlying34 hi hz0 (some ⟨g, 0, none⟩) cap cap (vals z cap) hold _ 1 _ src (by omega) (by omega) (by rw [hz2]; exact nextcap_one cap hn)
    have hge := grownCap_ge w (cap + 1) cap 5
    generalize grownCap w (cap + 1) cap 5 = C at h hge
    have hsz : ((vals z cap ++ [Value.int .u8 (x : Nat)]).toArray ++ Builtin.zeroCells (Value.int IntKind.u8 0).cells (C - (cap + 1))).size = C := by
      rw [Array.size_append, size_zeroCells]
      simp [vals, Value.cells]
      omega
    have hcell : ∀ j, (w.drew.alloc (.cells ((vals z cap ++ [Value.int .u8 (x : Nat)]).toArray ++ Builtin.zeroCells (Value.int IntKind.u8 0).cells (C - (cap + 1))) 5)).cell? ⟨w.heap.size, j, none⟩ = ((vals z cap ++ [Value.int .u8 (x : Nat)]).toArray ++ Builtin.zeroCells (Value.int IntKind.u8 0).cells (C - (cap + 1)))[j]? := fun j =>
      World.cell?_alloc_at _ _ _ _ (by simp)
    refine ⟨w.heap.size, C, _, h, ⟨hbase, by simp, hge, fun j hj => ?_, fun j h1 h2 => ?_⟩, ((Below.refl base w).drew).alloc (by simpa using hbase) _⟩
    · rw [hcell, Array.getElem?_append_left (by simp [vals]; omega), List.getElem?_toArray]
      by_cases e : j = cap
      · subst e
        rw [Ob.upd_same, List.getElem?_append_right (by simp [vals])]
        simp [vals]
      · rw [Ob.upd_ne _ _ e, List.getElem?_append_left (by simp [vals]; omega)]
        exact vals_get z cap j (by omega)
    · refine ⟨by rw [hcell, Array.getElem?_eq_getElem (by omega)]; rfl, ?_⟩
      exact World.frozen?_alloc_at _ _ _ _ (by simp)
theorem wpList_prow {ops : Array Oper} {rest : List Oper} {o : Oper} {a : Act} {w : World} {Q : Exit → Act → World → Prop} (hgd : o.guard = none) (s x : Operand)
    (ho : o.op = .call { callee := .builtin .append, args := #[s, x], argTypes := #[34, 34] }) {base g len cap : Nat} {z : Nat → Nat} (t : PRow w base g len cap z) (hbase : base ≤ w.heap.size) (hn : len ≤ 1000000) (b1 c1 v : Nat)
    (hx : w.cell? ⟨b1, 0, none⟩ = some (.int .u8 (v : Nat))) (hs : a.eval s = .slice (some ⟨g, 0, none⟩) len cap) (hx' : a.eval x = .slice (some ⟨b1, 0, none⟩) 1 c1)
    (h : ∀ g' cap' w', PRow w' base g' (len + 1) cap' (Ob.upd z len v) → Below base w w' → wpList Tryd.prog ops Q rest (a.put o.dst (.slice (some ⟨g', 0, none⟩) (len + 1) cap')) w') : wpList Tryd.prog ops Q (o :: rest) a w := by
  refine wpList_plain hgd fun K hK => ?_
  obtain ⟨g', cap', w', hr, h1, h2⟩ := prow_append t hbase hn b1 c1 v hx o.type
  unfold Oper.wp execOp
  simp only [ho, resolve, invoke, builtin, Sem.run_bind, Sem.run_pure, Result.andThen_ok, List.map_toArray, List.map_cons, List.map_nil, hs, hx', hr]
  exact hK _ _ (h g' cap' w' h1 h2)
end Go.Proofs.YtdhbkhmknnlmnaaDoor

namespace Go.Proofs.YtdhbkhmknnlmnaaDoor
open Go.RowKit Go.Proofs
set_option linter.unusedVariables false
set_option linter.unusedSimpArgs false
attribute [local go_sem ↓] Go.wp_at_zero Go.wp_at_succ

theorem upd_self {z : Nat → Nat} {k x : Nat} (h : z k = x) : Ob.upd z k x = z := by
  funext j
  unfold Ob.upd
  by_cases e : j = k
  · subst e; simp [h]
  · simp [e]
/-- n bytes, 0 behind them. -/
def padZ (z : Nat → Nat) (n j : Nat) : Nat := if j < n then z j else 0
theorem padZ_blk (z : Nat → Nat) (n i j : Nat) : padZ z n (64 * i + j) = Ob.blk z n i j := rfl
theorem PRow.congr {w : World} {base g len cap : Nat} {z z' : Nat → Nat} (t : PRow w base g len cap z) (h : ∀ j, j < len → z j = z' j) : PRow w base g len cap z' := ⟨t.lb, t.lt, t.le, fun j hj => by rw [← h j hj]; exact t.c j hj, t.room⟩

theorem le_nblk (n : Nat) : n ≤ 64 * Ob.nblk n := by unfold Ob.nblk; split <;> omega
theorem nblk_le (n : Nat) (hn : n ≤ 20000) : Ob.nblk n ≤ 400 := by unfold Ob.nblk; split <;> omega
theorem nblk_more {k n : Nat} (hk : k ≤ 64 * Ob.nblk n) (hn : n ≤ k) (h : k % 64 ≠ 0 ∨ k = 0) : k + 1 ≤ 64 * Ob.nblk n := by
  have hp : 0 < Ob.nblk n := by unfold Ob.nblk; split <;> omega
  omega
theorem nblk_end {k n : Nat} (hk : k ≤ 64 * Ob.nblk n) (hn : n ≤ k) (h0 : k ≠ 0) (h : k % 64 = 0) : k = 64 * Ob.nblk n := by
  unfold Ob.nblk at *
  by_cases e : n = 0
  · rw [if_pos e] at hk ⊢; omega
  · rw [if_neg e] at hk ⊢; omega

theorem nblk_last {i k n t : Nat} (hi : i < Ob.nblk n) (hk : k = 64 * Ob.nblk n) (ht : t = 64 * (i + 1)) : t = k ↔ n ≤ 64 * (i + 1) := by
  unfold Ob.nblk at *
  by_cases e : n = 0
  · rw [if_pos e] at hi hk; omega
  · rw [if_neg e] at hi hk; omega
theorem PRow.farCells {w : World} {base g len cap b : Nat} {z : Nat → Nat} (t : PRow w base g len cap z) (h : g ≠ b) (o : Nat) (cs : List Value) : PRow (w.setCells b o cs) base g len cap z :=
  have hc : ∀ j, (w.setCells b o cs).cell? ⟨g, j, none⟩ = w.cell? ⟨g, j, none⟩ := fun j => World.cell?_setCells_out b cs o w _ (fun e _ => absurd e h)
  ⟨t.lb, by rw [setCells_size]; exact t.lt, t.le, fun j hj => by rw [hc]; exact t.c j hj, fun j h1 h2 => by rw [hc, World.frozen?_setCells]; exact t.room j h1 h2⟩

set_option maxHeartbeats 8000000 in
set_option maxRecDepth 8000 in
theorem rsum_core (s : ByteArray) (hs : s.size ≤ 8) (a : Option Addr) (n c : Nat) (hn : n ≤ 20000) (hc : n ≤ c) (z : Nat → Nat) (hz : ∀ i, z i < 256) (w : World) (hS : Src w a n z) :
    Calls Tryd.prog 31 #[.string s, .slice a n c] w fun e w' => ∃ g cap, e = .returned (.slice (some ⟨g, 0, none⟩) 32 cap) ∧ w.heap.size ≤ g ∧ Bys w' g 0 32 (lowBy (digS s z n)) ∧ Below w.heap.size w w' := by
  have hz' : Hid (∀ i, z i < 256) := hz
  have hS' : Hid (Src w a n z) := hS
  clear hz hS
  obtain ⟨pc, W0, h0, p0, b0⟩ := prow_str w s
  obtain ⟨N, hN⟩ : ∃ N, Hid (w.heap.size = N) := ⟨_, rfl⟩
  rw [hN.out] at h0 p0 b0
  go_enter Tryd.func31, Tryd.ntmps31
  go_wp2
  clear h0
  go_loopw [5] (fun s5 wr => ∃ (k g cap : Nat), k ≤ 8 ∧ s.size ≤ k ∧ s5 = .slice (some ⟨g, 0, none⟩) k cap ∧ Hid (PRow wr N g k cap (sby s)) ∧ Below N w wr) (fun s5 _ => 8 - lenV s5)
  case atStart => exact ⟨s.size, N, pc, hs, Nat.le_refl _, rfl, p0, b0⟩
  case round =>
    clear p0 b0
    obtain ⟨k, g, cap, hk, hsk, rfl, p, hB⟩ := hrel
    have l0 := hB.size
    by_cases hlt : k < 8
    · have k0 : (k : Int) < 8 := by omega
      have lN : N ≤ wr.heap.size := by have := hN.out; omega
      have p1 : PRow (wr.alloc (.cells #[.int .u8 0] 5)) N g k cap (sby s) := p.out.below ((Below.refl wr.heap.size wr).alloc (Nat.le_refl _) _) p.out.lt
      have hB1 : Below N w (wr.alloc (.cells #[.int .u8 0] 5)) := hB.alloc lN _
      go_wp2_with (at_builtin; refine wpList_prow rfl _ _ rfl p1 (by simp; omega) (by omega) wr.heap.size 1 0 (by rw [World.cell?_alloc_new]; rfl) rfl rfl ?_; intro g' cap' W1 p2 b2)
      rw [upd_self (sby_out s hsk)] at p2
      have hB2 : Below N w W1 := hB1.trans b2
      go_roundw
      case rel => exact ⟨k + 1, g', cap', by omega, by omega, rfl, p2, hB2⟩
      case measure => (show 8 - (k + 1) < 8 - k; omega)
    · obtain rfl : k = 8 := by omega
      have lN : N ≤ wr.heap.size := by have := hN.out; omega
      have c1 := rwordsW g 0 8 2 cap (by decide) (by decide) (sby s) (sby_lt s) (by decide) wr p.out.bys
      go_upto_region 5 with (go_at_call 50; with_reducible refine c1.mono ?_; rintro e W1 ⟨G, gc, rfl, lG, tg1, b1⟩)
      have l1 := b1.size
      have hB1 : Below N w W1 := below_via b1 hB lN
      clear p hB c1 b1
      have lg1 := tg1.lt
      have c2 := rfirstW W1
      unfold arrV at c2
      go_upto_region 6 with (first | ((with_reducible refine wpList_storeLit (Ob.first) Arr.new8 ?_ ?_ ?_ ?_); (focus rfl); (focus rfl); (focus kernel_rfl); intro W3 hW3_ tW3_ zW3_; try simp only [Act.put, List.setIfInBounds_toArray, List.set_cons_zero, List.set_cons_succ]) | (go_at_call 51; with_reducible refine c2.mono ?_; rintro e W2 ⟨rfl, b2⟩))
      have l2 := b2.size
      have tg3 : Hid (Arr W3 .u32 G 2 (wordAt (sby s))) := by rw [hW3_.out]; exact ((tg1.below b2 (by omega)).alloc _).farCells (by omega) _ _
      have hB2 : Below N w W2 := below_via b2 hB1 (by omega)
      have hB3 : Below N w W3 := by rw [hW3_.out]; exact below_setCells (hB2.alloc (by omega) _) (by omega) _ _
      have th3 := tW3_.out
      obtain ⟨H, hH⟩ : ∃ V, Hid (W2.heap.size = V) := ⟨_, rfl⟩
      rw [hH.out] at th3
      have lH : G < H := by have := hH.out; omega
      have lNH : N ≤ G := by omega
      rw [hH.out]
      clear tg1 hB1 hB2 hW3_ tW3_ zW3_ l2 b2 c2 hH lg1 l1 lG
      have x0 := xor_u32 (Ob.first 0) 16842784 (Ob.first_lt 0) (by decide)
      obtain ⟨X0, hX0⟩ : ∃ X, Hid (Ob.first 0 ^^^ 16842784 = X) := ⟨_, rfl⟩
      rw [hX0.out] at x0
      have x0' : bits .xor .u32 ((Ob.first 0 : Nat) : Int) 16842784 = (X0 : Int) := x0
      have c0 := th3.c 0 (by decide)
      have f0 := th3.f 0 (by decide)
      go_upto_region 7 with (fail)
      have th1 : Hid (Arr (W3.setCell ⟨H, 0, none⟩ (.int .u32 (X0 : Nat))) .u32 H 8 (Ob.upd Ob.first 0 X0)) := th3.set (by decide)
      have tg1 : Hid (Arr (W3.setCell ⟨H, 0, none⟩ (.int .u32 (X0 : Nat))) .u32 G 2 (wordAt (sby s))) := tg3.out.far (by omega) _ _
      have hB1 : Below N w (W3.setCell ⟨H, 0, none⟩ (.int .u32 (X0 : Nat))) := by (repeat' (first | (with_reducible first | exact Below.refl _ _ | assumption | refine Below.alloc ?_ ?_ _ | refine Below.drew ?_ | refine below_drewN ?_ _ | refine Below.setCell ?_ ?_ _ | refine below_via (by with_reducible assumption) ?_ ?_) | omega | (simp only [szs]; omega) | (simp only [szs] at *; omega)))
      clear th3 tg3 hB3 c0 f0 x0 x0'
      generalize (W3.setCell ⟨H, 0, none⟩ (.int .u32 (X0 : Nat))) = W4 at *
      have hv1 : Hid (Ob.Words32 (Ob.upd Ob.first 0 X0)) := Ob.Words32.upd (fun j => Ob.first_lt j) 0 (by rw [← hX0.out]; exact Ob.xor_lt (Ob.first_lt 0) (by decide))
      have hend : Hid (Ob.open0 (wordAt (sby s) 0) (wordAt (sby s) 1) = Ob.upd (Ob.upd (Ob.upd Ob.first 0 X0) 6 (Ob.upd Ob.first 0 X0 6 ^^^ wordAt (sby s) 0)) 7 (Ob.upd (Ob.upd Ob.first 0 X0) 6 (Ob.upd Ob.first 0 X0 6 ^^^ wordAt (sby s) 0) 7 ^^^ wordAt (sby s) 1)) := by
        rw [← hX0.out]; rfl
      have hdig : Hid (digS s z n = digW (wordAt (sby s) 0) (wordAt (sby s) 1) z n (Ob.nblk n)) := rfl
      have lw1 : wordAt (sby s) 0 < 4294967296 := word_lt (sby_lt s) 0
      have lw2 : wordAt (sby s) 1 < 4294967296 := word_lt (sby_lt s) 1
      obtain ⟨x, hw1⟩ : ∃ x, Hid (wordAt (sby s) 0 = x) := ⟨_, rfl⟩
      obtain ⟨y, hw2⟩ : ∃ x, Hid (wordAt (sby s) 1 = x) := ⟨_, rfl⟩
      obtain ⟨V, hV⟩ : ∃ V, Hid (Ob.upd Ob.first 0 X0 = V) := ⟨_, rfl⟩
      have hwo : Hid (Ob.Words32 (Ob.open0 x y)) := by rw [← hw1.out, ← hw2.out]; exact Ob.open0_words lw1 lw2
      rw [hw1.out] at lw1
      rw [hw2.out] at lw2
      rw [hw1.out, hw2.out, hV.out] at hend
      rw [hw1.out, hw2.out] at hdig
      rw [hV.out] at hv1 th1
      have xw1 := xor_u32 (V 6) x (hv1.out _) lw1
      obtain ⟨X1, hX1⟩ : ∃ X, Hid (V 6 ^^^ x = X) := ⟨_, rfl⟩
      rw [hX1.out] at xw1
      have p1 := th1.out.drew.c 6 (by decide)
      have c1 := th1.out.c 6 (by decide)
      have f1 := th1.out.f 6 (by decide)
      have g1 := tg1.out.drew.c 0 (by decide)
      rw [hw1.out] at g1
      go_upto_region 7 with (fail)
      refine wp_region_noPanic ?_
      refine region_lastly (S := (fun w' => w'.cell? ⟨H, 6, none⟩ = some (.int .u32 (V 6 : Nat)) ∧ w'.cell? ⟨G, 0, none⟩ = some (.int .u32 (x : Nat)))) [7] (by kernel_rfl) (by ((try dsimp only); (exact ⟨p1, g1⟩))) (fun hHeld => ?_)
      refine anyZ_free (i := 0) (oi := ?oi_1) (v := ?v_1) ?hi_1 ?hs_1 ?hf_1 ?hr_1 ?hQ_1 (Or.inl ⟨?hw_1, ?hy_1⟩) ?hrest_1
      case hi_1 => (simp only [List.getElem?_toArray, List.getElem?_cons_succ, List.getElem?_cons_zero]; exact rfl)
      case hs_1 => kernel_rfl
      case hf_1 => kernel_rfl
      case hr_1 => kernel_rfl
      case hQ_1 => exact fun _ _ _ h => h
      case hw_1 => rfl
      case hy_1 => (intro w _; go_simp; try with_reducible rfl)
      try simp only [Act.put, List.setIfInBounds_toArray, List.set_cons_zero, List.set_cons_succ]
      refine anyZ_take (i := 1) (oi := ?oi_2) (v := ?v_2) ?hi_2 ?hz_2 ?hs_2 ?hf_2 ?hr_2 ?hQ_2 (Or.inl ⟨?hw_2, ?hy_2⟩) ?hS_2 ?hrest_2
      case hi_2 => (simp only [List.getElem?_toArray, List.getElem?_cons_succ, List.getElem?_cons_zero]; exact rfl)
      case hz_2 => kernel_rfl
      case hs_2 => kernel_rfl
      case hf_2 => kernel_rfl
      case hr_2 => kernel_rfl
      case hQ_2 => exact fun _ _ _ h => h
      case hw_2 => rfl
      case hS_2 => assumption
      case hy_2 => (intro w hSw; (try dsimp only at hSw); go_simp; try with_reducible rfl)
      try simp only [Act.put, List.setIfInBounds_toArray, List.set_cons_zero, List.set_cons_succ]
      refine anyZ_free (i := 2) (oi := ?oi_3) (v := ?v_3) ?hi_3 ?hs_3 ?hf_3 ?hr_3 ?hQ_3 (Or.inl ⟨?hw_3, ?hy_3⟩) ?hrest_3
      case hi_3 => (simp only [List.getElem?_toArray, List.getElem?_cons_succ, List.getElem?_cons_zero]; exact rfl)
      case hs_3 => kernel_rfl
      case hf_3 => kernel_rfl
      case hr_3 => kernel_rfl
      case hQ_3 => exact fun _ _ _ h => h
      case hw_3 => rfl
      case hy_3 => (intro w _; go_simp; try with_reducible rfl)
      try simp only [Act.put, List.setIfInBounds_toArray, List.set_cons_zero, List.set_cons_succ]
      refine anyZ_free (i := 3) (oi := ?oi_4) (v := ?v_4) ?hi_4 ?hs_4 ?hf_4 ?hr_4 ?hQ_4 (Or.inl ⟨?hw_4, ?hy_4⟩) ?hrest_4
      case hi_4 => (simp only [List.getElem?_toArray, List.getElem?_cons_succ, List.getElem?_cons_zero]; exact rfl)
      case hs_4 => kernel_rfl
      case hf_4 => kernel_rfl
      case hr_4 => kernel_rfl
      case hQ_4 => exact fun _ _ _ h => h
      case hw_4 => rfl
      case hy_4 => (intro w _; go_simp; try with_reducible rfl)
      try simp only [Act.put, List.setIfInBounds_toArray, List.set_cons_zero, List.set_cons_succ]
      refine anyZ_take (i := 4) (oi := ?oi_5) (v := ?v_5) ?hi_5 ?hz_5 ?hs_5 ?hf_5 ?hr_5 ?hQ_5 (Or.inl ⟨?hw_5, ?hy_5⟩) ?hS_5 ?hrest_5
      case hi_5 => (simp only [List.getElem?_toArray, List.getElem?_cons_succ, List.getElem?_cons_zero]; exact rfl)
      case hz_5 => kernel_rfl
      case hs_5 => kernel_rfl
      case hf_5 => kernel_rfl
      case hr_5 => kernel_rfl
      case hQ_5 => exact fun _ _ _ h => h
      case hw_5 => rfl
      case hS_5 => assumption
      case hy_5 => (intro w hSw; (try dsimp only at hSw); go_simp; try with_reducible rfl)
      try simp only [Act.put, List.setIfInBounds_toArray, List.set_cons_zero, List.set_cons_succ]
      refine anyZ_free (i := 5) (oi := ?oi_6) (v := ?v_6) ?hi_6 ?hs_6 ?hf_6 ?hr_6 ?hQ_6 (Or.inl ⟨?hw_6, ?hy_6⟩) ?hrest_6
      case hi_6 => (simp only [List.getElem?_toArray, List.getElem?_cons_succ, List.getElem?_cons_zero]; exact rfl)
      case hs_6 => kernel_rfl
      case hf_6 => kernel_rfl
      case hr_6 => kernel_rfl
      case hQ_6 => exact fun _ _ _ h => h
      case hw_6 => rfl
      case hy_6 => (intro w _; go_simp; try with_reducible rfl)
      try simp only [Act.put, List.setIfInBounds_toArray, List.set_cons_zero, List.set_cons_succ]
      refine anyZ_free (i := 6) (oi := ?oi_7) (v := ?v_7) ?hi_7 ?hs_7 ?hf_7 ?hr_7 ?hQ_7 (Or.inl ⟨?hw_7, ?hy_7⟩) ?hrest_7
      case hi_7 => (simp only [List.getElem?_toArray, List.getElem?_cons_succ, List.getElem?_cons_zero]; exact rfl)
      case hs_7 => kernel_rfl
      case hf_7 => kernel_rfl
      case hr_7 => kernel_rfl
      case hQ_7 => exact fun _ _ _ h => h
      case hw_7 => rfl
      case hy_7 => (intro w _; go_simp; try with_reducible rfl)
      try simp only [Act.put, List.setIfInBounds_toArray, List.set_cons_zero, List.set_cons_succ]
      refine anyZ_ready (rs := [7]) (by kernel_rfl) (by simp) ?_
      refine (AllZ.last (o := ?o_8) ?ho_8 (by rfl) (fun K hK => ?st_8) AllZ.nil)
      case ho_8 => (simp only [List.getElem?_toArray, List.getElem?_cons_succ, List.getElem?_cons_zero]; exact rfl)
      case st_8 =>
        go_simp
        refine hK.out _ _ ?_
        clear hK K
        try simp only [Act.put, List.setIfInBounds_toArray, List.set_cons_zero, List.set_cons_succ]
        refine anyZ_done (by kernel_rfl) ?_ _
        refine NoPanic.normal ?_
        have th2 : Hid (Arr ((W4.setCell ⟨H, 6, none⟩ (.int .u32 (X1 : Nat))).drew) .u32 H 8 (Ob.upd (V) 6 X1)) := (th1.out.set (i := 6) (z := X1) (by decide)).drew
        have tg2 : Hid (Arr ((W4.setCell ⟨H, 6, none⟩ (.int .u32 (X1 : Nat))).drew) .u32 G 2 (wordAt (sby s))) := (tg1.out.far (by omega) _ _).drew
        have hB2 : Below N w ((W4.setCell ⟨H, 6, none⟩ (.int .u32 (X1 : Nat))).drew) := by (repeat' (first | (with_reducible first | exact Below.refl _ _ | assumption | refine Below.alloc ?_ ?_ _ | refine Below.drew ?_ | refine below_drewN ?_ _ | refine Below.setCell ?_ ?_ _ | refine below_via (by with_reducible assumption) ?_ ?_) | omega | (simp only [szs]; omega) | (simp only [szs] at *; omega)))
        clear hHeld th1 tg1 hB1 p1 c1 f1 g1 xw1
        generalize ((W4.setCell ⟨H, 6, none⟩ (.int .u32 (X1 : Nat))).drew) = W5 at *
        have hv2 : Hid (Ob.Words32 (Ob.upd V 6 X1)) := hv1.out.upd 6 (by rw [← hX1.out]; exact Ob.xor_lt (hv1.out _) lw1)
        rw [hX1.out] at hend
        obtain ⟨V', hV'⟩ : ∃ V', Hid (Ob.upd V 6 X1 = V') := ⟨_, rfl⟩
        rw [hV'.out] at hend hv2 th2
        have xw2 := xor_u32 (V' 7) y (hv2.out _) lw2
        obtain ⟨X2, hX2⟩ : ∃ X, Hid (V' 7 ^^^ y = X) := ⟨_, rfl⟩
        rw [hX2.out] at xw2
        have p2 := th2.out.drew.c 7 (by decide)
        have c2 := th2.out.c 7 (by decide)
        have f2 := th2.out.f 7 (by decide)
        have g2 := tg2.out.drew.c 1 (by decide)
        rw [hw2.out] at g2
        go_upto_region 8 with (fail)
        refine wp_region_noPanic ?_
        refine region_lastly (S := (fun w' => w'.cell? ⟨H, 7, none⟩ = some (.int .u32 (V' 7 : Nat)) ∧ w'.cell? ⟨G, 1, none⟩ = some (.int .u32 (y : Nat)))) [7] (by kernel_rfl) (by ((try dsimp only); (exact ⟨p2, g2⟩))) (fun hHeld => ?_)
        refine anyZ_free (i := 0) (oi := ?oi_9) (v := ?v_9) ?hi_9 ?hs_9 ?hf_9 ?hr_9 ?hQ_9 (Or.inl ⟨?hw_9, ?hy_9⟩) ?hrest_9
        case hi_9 => (simp only [List.getElem?_toArray, List.getElem?_cons_succ, List.getElem?_cons_zero]; exact rfl)
        case hs_9 => kernel_rfl
        case hf_9 => kernel_rfl
        case hr_9 => kernel_rfl
        case hQ_9 => exact fun _ _ _ h => h
        case hw_9 => rfl
        case hy_9 => (intro w _; go_simp; try with_reducible rfl)
        try simp only [Act.put, List.setIfInBounds_toArray, List.set_cons_zero, List.set_cons_succ]
        refine anyZ_take (i := 1) (oi := ?oi_10) (v := ?v_10) ?hi_10 ?hz_10 ?hs_10 ?hf_10 ?hr_10 ?hQ_10 (Or.inl ⟨?hw_10, ?hy_10⟩) ?hS_10 ?hrest_10
        case hi_10 => (simp only [List.getElem?_toArray, List.getElem?_cons_succ, List.getElem?_cons_zero]; exact rfl)
        case hz_10 => kernel_rfl
        case hs_10 => kernel_rfl
        case hf_10 => kernel_rfl
        case hr_10 => kernel_rfl
        case hQ_10 => exact fun _ _ _ h => h
        case hw_10 => rfl
        case hS_10 => assumption
        case hy_10 => (intro w hSw; (try dsimp only at hSw); go_simp; try with_reducible rfl)
        try simp only [Act.put, List.setIfInBounds_toArray, List.set_cons_zero, List.set_cons_succ]
        refine anyZ_free (i := 2) (oi := ?oi_11) (v := ?v_11) ?hi_11 ?hs_11 ?hf_11 ?hr_11 ?hQ_11 (Or.inl ⟨?hw_11, ?hy_11⟩) ?hrest_11
        case hi_11 => (simp only [List.getElem?_toArray, List.getElem?_cons_succ, List.getElem?_cons_zero]; exact rfl)
        case hs_11 => kernel_rfl
        case hf_11 => kernel_rfl
        case hr_11 => kernel_rfl
        case hQ_11 => exact fun _ _ _ h => h
        case hw_11 => rfl
        case hy_11 => (intro w _; go_simp; try with_reducible rfl)
        try simp only [Act.put, List.setIfInBounds_toArray, List.set_cons_zero, List.set_cons_succ]
        refine anyZ_free (i := 3) (oi := ?oi_12) (v := ?v_12) ?hi_12 ?hs_12 ?hf_12 ?hr_12 ?hQ_12 (Or.inl ⟨?hw_12, ?hy_12⟩) ?hrest_12
        case hi_12 => (simp only [List.getElem?_toArray, List.getElem?_cons_succ, List.getElem?_cons_zero]; exact rfl)
        case hs_12 => kernel_rfl
        case hf_12 => kernel_rfl
        case hr_12 => kernel_rfl
        case hQ_12 => exact fun _ _ _ h => h
        case hw_12 => rfl
        case hy_12 => (intro w _; go_simp; try with_reducible rfl)
        try simp only [Act.put, List.setIfInBounds_toArray, List.set_cons_zero, List.set_cons_succ]
        refine anyZ_take (i := 4) (oi := ?oi_13) (v := ?v_13) ?hi_13 ?hz_13 ?hs_13 ?hf_13 ?hr_13 ?hQ_13 (Or.inl ⟨?hw_13, ?hy_13⟩) ?hS_13 ?hrest_13
        case hi_13 => (simp only [List.getElem?_toArray, List.getElem?_cons_succ, List.getElem?_cons_zero]; exact rfl)
        case hz_13 => kernel_rfl
        case hs_13 => kernel_rfl
        case hf_13 => kernel_rfl
        case hr_13 => kernel_rfl
        case hQ_13 => exact fun _ _ _ h => h
        case hw_13 => rfl
        case hS_13 => assumption
        case hy_13 => (intro w hSw; (try dsimp only at hSw); go_simp; try with_reducible rfl)
        try simp only [Act.put, List.setIfInBounds_toArray, List.set_cons_zero, List.set_cons_succ]
        refine anyZ_free (i := 5) (oi := ?oi_14) (v := ?v_14) ?hi_14 ?hs_14 ?hf_14 ?hr_14 ?hQ_14 (Or.inl ⟨?hw_14, ?hy_14⟩) ?hrest_14
        case hi_14 => (simp only [List.getElem?_toArray, List.getElem?_cons_succ, List.getElem?_cons_zero]; exact rfl)
        case hs_14 => kernel_rfl
        case hf_14 => kernel_rfl
        case hr_14 => kernel_rfl
        case hQ_14 => exact fun _ _ _ h => h
        case hw_14 => rfl
        case hy_14 => (intro w _; go_simp; try with_reducible rfl)
        try simp only [Act.put, List.setIfInBounds_toArray, List.set_cons_zero, List.set_cons_succ]
        refine anyZ_free (i := 6) (oi := ?oi_15) (v := ?v_15) ?hi_15 ?hs_15 ?hf_15 ?hr_15 ?hQ_15 (Or.inl ⟨?hw_15, ?hy_15⟩) ?hrest_15
        case hi_15 => (simp only [List.getElem?_toArray, List.getElem?_cons_succ, List.getElem?_cons_zero]; exact rfl)
        case hs_15 => kernel_rfl
        case hf_15 => kernel_rfl
        case hr_15 => kernel_rfl
        case hQ_15 => exact fun _ _ _ h => h
        case hw_15 => rfl
        case hy_15 => (intro w _; go_simp; try with_reducible rfl)
        try simp only [Act.put, List.setIfInBounds_toArray, List.set_cons_zero, List.set_cons_succ]
        refine anyZ_ready (rs := [7]) (by kernel_rfl) (by simp) ?_
        refine (AllZ.last (o := ?o_16) ?ho_16 (by rfl) (fun K hK => ?st_16) AllZ.nil)
        case ho_16 => (simp only [List.getElem?_toArray, List.getElem?_cons_succ, List.getElem?_cons_zero]; exact rfl)
        case st_16 =>
          go_simp
          refine hK.out _ _ ?_
          clear hK K
          try simp only [Act.put, List.setIfInBounds_toArray, List.set_cons_zero, List.set_cons_succ]
          refine anyZ_done (by kernel_rfl) ?_ _
          refine NoPanic.normal ?_
          have th3 : Hid (Arr ((W5.setCell ⟨H, 7, none⟩ (.int .u32 (X2 : Nat))).drew) .u32 H 8 (Ob.upd (V') 7 X2)) := (th2.out.set (i := 7) (z := X2) (by decide)).drew
          have tg3 : Hid (Arr ((W5.setCell ⟨H, 7, none⟩ (.int .u32 (X2 : Nat))).drew) .u32 G 2 (wordAt (sby s))) := (tg2.out.far (by omega) _ _).drew
          have hB3 : Below N w ((W5.setCell ⟨H, 7, none⟩ (.int .u32 (X2 : Nat))).drew) := by (repeat' (first | (with_reducible first | exact Below.refl _ _ | assumption | refine Below.alloc ?_ ?_ _ | refine Below.drew ?_ | refine below_drewN ?_ _ | refine Below.setCell ?_ ?_ _ | refine below_via (by with_reducible assumption) ?_ ?_) | omega | (simp only [szs]; omega) | (simp only [szs] at *; omega)))
          clear hHeld th2 tg2 hB2 p2 c2 f2 g2 xw2
          generalize ((W5.setCell ⟨H, 7, none⟩ (.int .u32 (X2 : Nat))).drew) = W6 at *
          rw [hX2.out] at hend
          rw [← hend.out] at th3
          clear hend hV hV' hX0 hX1 hX2 hv1 hv2 lw1 lw2 hw1 hw2 tg3
          have lH6 := th3.out.lt
          have lN6 : N ≤ W6.heap.size := by omega
          have hown0 : (W6.alloc (.cells #[] 5)).ownsRow W6.heap.size 5 1 (.slice (some ⟨W6.heap.size, 0, none⟩) 0 0) 0 [] := World.ownsRow_made W6 #[] 0 (Nat.le_refl _) (by decide) rfl
          have hBa : Below N w (W6.alloc (.cells #[] 5)) := hB3.alloc lN6 _
          have hS1 := hS'.out.below (by rw [hN.out]; exact hBa)
          go_upto_region 10 with (at_builtin; refine wpList_copyB rfl _ _ rfl W6.heap.size _ rfl hown0 (by simp) a n c z rfl hS1 (by omega) ?_; intro ga capa W7 hown7 b7)
          have pa7 : Hid (PRow W7 W6.heap.size ga n capa (padZ z n)) := (PRow.of_row hown7).congr (fun j hj => by unfold padZ; rw [if_pos hj])
          obtain ⟨B, hB'⟩ : ∃ B, Hid (W6.heap.size = B) := ⟨_, rfl⟩
          have th7 : Hid (Arr W7 .u32 H 8 (Ob.open0 x y)) := (th3.out.alloc _).below b7 lH6
          have hB7 : Below N w W7 := below_via b7 hBa lN6
          have l7 := b7.size
          simp only [World.size_alloc] at l7
          rw [hB'.out] at pa7 lH6 lN6 l7
          have lNB : N ≤ B := lN6
          clear hown0 hown7 hBa hS1 b7 th3 hB3 hB'
          go_loopw [8] (fun s8 wr => ∃ (k g cap : Nat), n ≤ k ∧ k ≤ 64 * Ob.nblk n ∧ s8 = .slice (some ⟨g, 0, none⟩) k cap ∧ Hid (PRow wr B g k cap (padZ z n)) ∧ Hid (Arr wr .u32 H 8 (Ob.open0 x y)) ∧ Below N w wr) (fun s8 _ => 64 * Ob.nblk n - lenV s8)
          case atStart => exact ⟨n, ga, capa, Nat.le_refl _, le_nblk n, rfl, pa7, th7, hB7⟩
          case round =>
            clear pa7 th7 hB7
            obtain ⟨k, g, cap, hnk, hk, rfl, p, th, hB⟩ := hrel
            have l0 := hB.size
            have lN : N ≤ wr.heap.size := by have := hN.out; omega
            have hnb := nblk_le n hn
            have lHr := th.out.lt
            have lgB := p.out.lb
            have lgr := p.out.lt
            obtain ⟨r, hr, er⟩ : ∃ r : Nat, Hid (k % 64 = r) ∧ (k : Int) % 64 = (r : Int) := ⟨k % 64, rfl, by omega⟩
            have er' : Int.tmod (k : Int) 64 = (r : Int) := by rw [Int.tmod_eq_emod_of_nonneg (by omega)]; exact er
            by_cases hmore : r ≠ 0 ∨ k = 0
            · have hk1 : k + 1 ≤ 64 * Ob.nblk n := nblk_more hk hnk (by have := hr.out; omega)
              have p1 : PRow (wr.alloc (.cells #[.int .u8 0] 5)) B g k cap (padZ z n) := p.out.below ((Below.refl wr.heap.size wr).alloc (Nat.le_refl _) _) p.out.lt
              have th1 : Arr (wr.alloc (.cells #[.int .u8 0] 5)) .u32 H 8 (Ob.open0 x y) := th.out.alloc _
              have hB1 : Below N w (wr.alloc (.cells #[.int .u8 0] 5)) := hB.alloc lN _
              have hpad : padZ z n k = 0 := by unfold padZ; rw [if_neg (by omega)]
              by_cases h0 : r = 0
              · have hk0 : k = 0 := by omega
                subst hk0
                subst h0
                go_wp2_with (at_builtin; refine wpList_prow rfl _ _ rfl p1 (by simp; omega) (by omega) wr.heap.size 1 0 (by rw [World.cell?_alloc_new]; rfl) rfl rfl ?_; intro g' cap' W8 p2 b2)
                rw [upd_self hpad] at p2
                have hB2 : Below N w W8 := hB1.trans (b2.mono lNB)
                have th2 : Hid (Arr W8 .u32 H 8 (Ob.open0 x y)) := th1.below b2 lH6
                go_roundw
                case rel => exact ⟨1, g', cap', by omega, by omega, rfl, p2, th2, hB2⟩
                case measure => (show 64 * Ob.nblk n - (0 + 1) < 64 * Ob.nblk n - 0; omega)
              · have r1 : ((r : Int) == 0) = false := by simpa using h0
                have r2 : (r : Int) ≠ 0 := by omega
                go_wp2_with (at_builtin; refine wpList_prow rfl _ _ rfl p1 (by simp; omega) (by omega) wr.heap.size 1 0 (by rw [World.cell?_alloc_new]; rfl) rfl rfl ?_; intro g' cap' W8 p2 b2)
                rw [upd_self hpad] at p2
                have hB2 : Below N w W8 := hB1.trans (b2.mono lNB)
                have th2 : Hid (Arr W8 .u32 H 8 (Ob.open0 x y)) := th1.below b2 lH6
                go_roundw
                case rel => exact ⟨k + 1, g', cap', by omega, by omega, rfl, p2, th2, hB2⟩
                case measure => (show 64 * Ob.nblk n - (k + 1) < 64 * Ob.nblk n - k; omega)
            · obtain rfl : r = 0 := by omega
              have hk0 : k ≠ 0 := by omega
              have hkn : k = 64 * Ob.nblk n := nblk_end hk hnk hk0 (by have := hr.out; omega)
              have k1 : ((k : Int) == 0) = false := by simpa using hk0
              have k2 : (k : Int) ≠ 0 := by omega
              have hkE : Hid (k = 64 * Ob.nblk n) := hkn
              have e64 : (k : Int) % 64 = 0 := er
              have e64' : Int.tmod (k : Int) 64 = 0 := er'
              clear hkn hmore er er' hr
              go_upto_region 12 with (fail)
              go_wp2
              have p' : Hid (PRow wr B g k cap (padZ z n)) := p
              go_loopw [9] (fun s9 wr => ∃ (i : Nat), i ≤ Ob.nblk n ∧ s9 = .int .i64 ((64 * i : Nat) : Int) ∧ Hid (PRow wr B g k cap (padZ z n)) ∧ Hid (Arr wr .u32 H 8 (digW x y z n i)) ∧ Below N w wr) (fun s9 _ => k - (intOf s9).toNat)
              case atStart => exact ⟨0, by omega, rfl, p', th, hB⟩
              case round =>
                clear p p' th hB lgr lHr l0
                obtain ⟨i, hi, rfl, p, th, hB⟩ := hrel
                have l0 := hB.size
                have hkc := p.out.le
                by_cases hlt : i < Ob.nblk n
                · obtain ⟨sN, hsN⟩ : ∃ sN, Hid (64 * i = sN) := ⟨_, rfl⟩
                  obtain ⟨tN, htN, et⟩ : ∃ tN : Nat, Hid (64 * (i + 1) = tN) ∧ IntKind.i64.wrap ((sN : Int) + 64) = (tN : Int) := ⟨64 * (i + 1), rfl, by rw [IntKind.wrap_i64]; have := hsN.out; omega⟩
                  rw [hsN.out]
                  have s0 : (0 : Int) ≤ (sN : Int) := by omega
                  have s1 : (sN : Int) < (k : Int) := by have := hsN.out; have := hkE.out; omega
                  have s2 : (sN : Int) ≤ (tN : Int) := by have := hsN.out; have := htN.out; omega
                  have s3 : (tN : Int) ≤ (cap : Int) := by have := htN.out; have := hkE.out; omega
                  have s4 : tN - sN = 64 := by have := hsN.out; have := htN.out; omega
                  have s5 : cap ≠ sN := by have := hsN.out; have := hkE.out; omega
                  have s6 : IntKind.u64.wrap (tN : Int) = (tN : Int) := by rw [IntKind.wrap_u64]; have := htN.out; omega
                  have s7 : IntKind.u64.wrap (n : Int) = (n : Int) := by rw [IntKind.wrap_u64]; omega
                  obtain ⟨L, hL⟩ : ∃ L, Hid (decide (n ≤ 64 * (i + 1)) = L) := ⟨_, rfl⟩
                  have hLk : decide (tN = k) = L := by
                    rw [← hL.out]
                    refine decide_eq_decide.2 ?_
                    have := htN.out
                    exact nblk_last hlt hkE.out this.symm
                  have hL1 : ((tN : Int) == (k : Int)) = L := by
                    rw [← hLk]
                    by_cases e : tN = k
                    · simp [e]
                    · have : (tN : Int) ≠ (k : Int) := by omega
                      simp [e, this]
                  obtain ⟨D, hD⟩ : ∃ D, Hid (digW x y z n i = D) := ⟨_, rfl⟩
                  have hDw : Hid (Ob.Words32 D) := by rw [← hD.out]; exact Ob.digI_words hwo.out _ (by omega) i
                  rw [hD.out] at th
                  obtain ⟨cnt, hcnt⟩ : ∃ cnt, Hid (min (64 * (i + 1)) n = cnt) := ⟨_, rfl⟩
                  have hnext : Hid (Ob.press D (wordAt (Ob.blk z n i)) cnt L = digW x y z n (i + 1)) := by rw [← hcnt.out, ← hL.out, ← hD.out]; rfl
                  have yb : Bys wr.drew g sN 64 (Ob.blk z n i) := ⟨p.out.bys.drew.lt, fun j hj => by
                    have q := p.out.c (sN + j) (by have := hsN.out; have := hkE.out; omega)
                    rw [← hsN.out, padZ_blk] at q
                    rw [← hsN.out]
                    exact q⟩
                  have c9 := rpress_core D hDw.out g sN (cap - sN) (Ob.blk z n i) (Ob.blk_lt hz'.out n i) cnt (by have := hcnt.out; omega) L wr.drew yb
                  rw [hnext.out] at c9
                  unfold arrV at c9
                  clear yb
                  cases L with
                  | false =>
                    have hc1 : cnt = tN := by
                      have h1 := hcnt.out; have h2 := htN.out
                      have h3 := of_decide_eq_false hL.out
                      omega
                    rw [hc1] at c9
                    go_upto_region 19 with (fail)
                    refine wp_region_noPanic ?_
                    refine region_lastly (S := (fun w' => Arr w' .u32 H 8 D)) [10] (by kernel_rfl) (by ((try dsimp only); (first | exact th.out.drew | exact th.out.drew.below b9 th.out.drew.lt))) (fun hHeld => ?_)
                    refine anyZ_take (i := 0) (oi := ?oi_17) (v := .agg (arrL .u32 D 8).toArray) ?hi_17 ?hz_17 ?hs_17 ?hf_17 ?hr_17 ?hQ_17 ?hy_17 ?hS_17 ?hrest_17
                    case hi_17 => (simp only [List.getElem?_toArray, List.getElem?_cons_succ, List.getElem?_cons_zero]; exact rfl)
                    case hz_17 => kernel_rfl
                    case hs_17 => kernel_rfl
                    case hf_17 => kernel_rfl
                    case hr_17 => kernel_rfl
                    case hQ_17 => exact fun _ _ _ h => h
                    case hS_17 => assumption
                    case hy_17 => (refine yieldsArr (k := .u32) (n := 8) (v := D) ?_ 65 (.tmp 7) ?_ H ?_ ?_ Tryd.underlying65 ?_ ?_; (focus rfl); (focus rfl); (focus rfl); (focus exact fun w h => h); (focus rfl); kernel_rfl)
                    try simp only [Act.put, List.setIfInBounds_toArray, List.set_cons_zero, List.set_cons_succ]
                    refine anyZ_free (i := 1) (oi := ?oi_18) (v := ?v_18) ?hi_18 ?hs_18 ?hf_18 ?hr_18 ?hQ_18 (Or.inl ⟨?hw_18, ?hy_18⟩) ?hrest_18
                    case hi_18 => (simp only [List.getElem?_toArray, List.getElem?_cons_succ, List.getElem?_cons_zero]; exact rfl)
                    case hs_18 => kernel_rfl
                    case hf_18 => kernel_rfl
                    case hr_18 => kernel_rfl
                    case hQ_18 => exact fun _ _ _ h => h
                    case hw_18 => rfl
                    case hy_18 => (intro w _; go_simp; try with_reducible rfl)
                    try simp only [Act.put, List.setIfInBounds_toArray, List.set_cons_zero, List.set_cons_succ]
                    refine anyZ_free (i := 2) (oi := ?oi_19) (v := ?v_19) ?hi_19 ?hs_19 ?hf_19 ?hr_19 ?hQ_19 (Or.inl ⟨?hw_19, ?hy_19⟩) ?hrest_19
                    case hi_19 => (simp only [List.getElem?_toArray, List.getElem?_cons_succ, List.getElem?_cons_zero]; exact rfl)
                    case hs_19 => kernel_rfl
                    case hf_19 => kernel_rfl
                    case hr_19 => kernel_rfl
                    case hQ_19 => exact fun _ _ _ h => h
                    case hw_19 => rfl
                    case hy_19 => (intro w _; go_simp; try with_reducible rfl)
                    try simp only [Act.put, List.setIfInBounds_toArray, List.set_cons_zero, List.set_cons_succ]
                    refine anyZ_free (i := 3) (oi := ?oi_20) (v := ?v_20) ?hi_20 ?hs_20 ?hf_20 ?hr_20 ?hQ_20 (Or.inl ⟨?hw_20, ?hy_20⟩) ?hrest_20
                    case hi_20 => (simp only [List.getElem?_toArray, List.getElem?_cons_succ, List.getElem?_cons_zero]; exact rfl)
                    case hs_20 => kernel_rfl
                    case hf_20 => kernel_rfl
                    case hr_20 => kernel_rfl
                    case hQ_20 => exact fun _ _ _ h => h
                    case hw_20 => rfl
                    case hy_20 => (intro w _; go_simp; try with_reducible rfl)
                    try simp only [Act.put, List.setIfInBounds_toArray, List.set_cons_zero, List.set_cons_succ]
                    refine anyZ_free (i := 4) (oi := ?oi_21) (v := ?v_21) ?hi_21 ?hs_21 ?hf_21 ?hr_21 ?hQ_21 (Or.inl ⟨?hw_21, ?hy_21⟩) ?hrest_21
                    case hi_21 => (simp only [List.getElem?_toArray, List.getElem?_cons_succ, List.getElem?_cons_zero]; exact rfl)
                    case hs_21 => kernel_rfl
                    case hf_21 => kernel_rfl
                    case hr_21 => kernel_rfl
                    case hQ_21 => exact fun _ _ _ h => h
                    case hw_21 => rfl
                    case hy_21 => (intro w _; go_simp; try with_reducible rfl)
                    try simp only [Act.put, List.setIfInBounds_toArray, List.set_cons_zero, List.set_cons_succ]
                    refine anyZ_free (i := 5) (oi := ?oi_22) (v := ?v_22) ?hi_22 ?hs_22 ?hf_22 ?hr_22 ?hQ_22 (Or.inl ⟨?hw_22, ?hy_22⟩) ?hrest_22
                    case hi_22 => (simp only [List.getElem?_toArray, List.getElem?_cons_succ, List.getElem?_cons_zero]; exact rfl)
                    case hs_22 => kernel_rfl
                    case hf_22 => kernel_rfl
                    case hr_22 => kernel_rfl
                    case hQ_22 => exact fun _ _ _ h => h
                    case hw_22 => rfl
                    case hy_22 => (intro w _; go_simp; try with_reducible rfl)
                    try simp only [Act.put, List.setIfInBounds_toArray, List.set_cons_zero, List.set_cons_succ]
                    refine anyZ_free (i := 6) (oi := ?oi_23) (v := ?v_23) ?hi_23 ?hs_23 ?hf_23 ?hr_23 ?hQ_23 (Or.inl ⟨?hw_23, ?hy_23⟩) ?hrest_23
                    case hi_23 => (simp only [List.getElem?_toArray, List.getElem?_cons_succ, List.getElem?_cons_zero]; exact rfl)
                    case hs_23 => kernel_rfl
                    case hf_23 => kernel_rfl
                    case hr_23 => kernel_rfl
                    case hQ_23 => exact fun _ _ _ h => h
                    case hw_23 => rfl
                    case hy_23 => (intro w _; go_simp; try with_reducible rfl)
                    try simp only [Act.put, List.setIfInBounds_toArray, List.set_cons_zero, List.set_cons_succ]
                    refine anyZ_free (i := 7) (oi := ?oi_24) (v := ?v_24) ?hi_24 ?hs_24 ?hf_24 ?hr_24 ?hQ_24 (Or.inl ⟨?hw_24, ?hy_24⟩) ?hrest_24
                    case hi_24 => (simp only [List.getElem?_toArray, List.getElem?_cons_succ, List.getElem?_cons_zero]; exact rfl)
                    case hs_24 => kernel_rfl
                    case hf_24 => kernel_rfl
                    case hr_24 => kernel_rfl
                    case hQ_24 => exact fun _ _ _ h => h
                    case hw_24 => rfl
                    case hy_24 => (intro w _; go_simp; try with_reducible rfl)
                    try simp only [Act.put, List.setIfInBounds_toArray, List.set_cons_zero, List.set_cons_succ]
                    refine anyZ_free (i := 8) (oi := ?oi_25) (v := ?v_25) ?hi_25 ?hs_25 ?hf_25 ?hr_25 ?hQ_25 (Or.inl ⟨?hw_25, ?hy_25⟩) ?hrest_25
                    case hi_25 => (simp only [List.getElem?_toArray, List.getElem?_cons_succ, List.getElem?_cons_zero]; exact rfl)
                    case hs_25 => kernel_rfl
                    case hf_25 => kernel_rfl
                    case hr_25 => kernel_rfl
                    case hQ_25 => exact fun _ _ _ h => h
                    case hw_25 => rfl
                    case hy_25 => (intro w _; go_simp; try with_reducible rfl)
                    try simp only [Act.put, List.setIfInBounds_toArray, List.set_cons_zero, List.set_cons_succ]
                    refine anyZ_ready (rs := [9]) (by kernel_rfl) (by simp) ?_
                    refine (AllZ.cons (o := ?o_26) ?ho_26 (fun K hK => ?st_26) AllZ.nil)
                    case ho_26 => (simp only [List.getElem?_toArray, List.getElem?_cons_succ, List.getElem?_cons_zero]; exact rfl)
                    case st_26 =>
                      go_simp
                      (go_at_call 52; with_reducible refine c9.mono ?_; rintro e W9 ⟨rfl, b9⟩)
                      refine hK.out _ _ (by ((try dsimp only); (first | exact th.out.drew | exact th.out.drew.below b9 th.out.drew.lt))) (fun hHeld => ?_)
                      clear hK K
                      try simp only [Act.put, List.setIfInBounds_toArray, List.set_cons_zero, List.set_cons_succ]
                      refine anyZ_ready (rs := [10]) (by kernel_rfl) (by simp) ?_
                      refine (AllZ.last (o := ?o_27) ?ho_27 (by rfl) (fun K hK => ?st_27) AllZ.nil)
                      case ho_27 => (simp only [List.getElem?_toArray, List.getElem?_cons_succ, List.getElem?_cons_zero]; exact rfl)
                      case st_27 =>
                        rw [if_pos (by rfl)]; refine wp_storeArr 65 _ _ rfl H rfl (digW x y z n (i + 1)) rfl (th.out.drew.below b9 th.out.drew.lt) (by kernel_rfl) ?_; intro W10 hWn th1 zWn
                        refine hK.out _ _ ?_
                        clear hK K
                        try simp only [Act.put, List.setIfInBounds_toArray, List.set_cons_zero, List.set_cons_succ]
                        refine anyZ_done (by kernel_rfl) ?_ _
                        refine NoPanic.normal ?_
                        have p1 : Hid (PRow W10 B g k cap (padZ z n)) := by rw [hWn.out]; exact (((p.out.below ((Below.refl wr.heap.size wr).drew) p.out.lt)).below b9 p.out.lt).farCells (by omega) _ _
                        have hB1 : Below N w W10 := by rw [hWn.out]; exact below_setCells (below_via b9 hB.drew (by have := hN.out; simp only [World.size_drew]; omega)) (by omega) _ _
                        have htE := htN.out
                        clear hHeld hWn zWn b9 c9 p th hB hLk hL1 hDw hD hnext
                        go_wp2
                        go_roundw
                        case rel => exact ⟨i + 1, by omega, by rw [htE], p1, th1, hB1⟩
                        case measure => (simp only [intOf, Int.toNat_natCast]; have := hsN.out; have := hkE.out; omega)
                  | true =>
                    have hc1 : cnt = n := by
                      have h1 := hcnt.out
                      have h3 := of_decide_eq_true hL.out
                      omega
                    rw [hc1] at c9
                    go_upto_region 19 with (fail)
                    refine wp_region_noPanic ?_
                    refine region_lastly (S := (fun w' => Arr w' .u32 H 8 D)) [10] (by kernel_rfl) (by ((try dsimp only); (first | exact th.out.drew | exact th.out.drew.below b9 th.out.drew.lt))) (fun hHeld => ?_)
                    refine anyZ_take (i := 0) (oi := ?oi_28) (v := .agg (arrL .u32 D 8).toArray) ?hi_28 ?hz_28 ?hs_28 ?hf_28 ?hr_28 ?hQ_28 ?hy_28 ?hS_28 ?hrest_28
                    case hi_28 => (simp only [List.getElem?_toArray, List.getElem?_cons_succ, List.getElem?_cons_zero]; exact rfl)
                    case hz_28 => kernel_rfl
                    case hs_28 => kernel_rfl
                    case hf_28 => kernel_rfl
                    case hr_28 => kernel_rfl
                    case hQ_28 => exact fun _ _ _ h => h
                    case hS_28 => assumption
                    case hy_28 => (refine yieldsArr (k := .u32) (n := 8) (v := D) ?_ 65 (.tmp 7) ?_ H ?_ ?_ Tryd.underlying65 ?_ ?_; (focus rfl); (focus rfl); (focus rfl); (focus exact fun w h => h); (focus rfl); kernel_rfl)
                    try simp only [Act.put, List.setIfInBounds_toArray, List.set_cons_zero, List.set_cons_succ]
                    refine anyZ_free (i := 1) (oi := ?oi_29) (v := ?v_29) ?hi_29 ?hs_29 ?hf_29 ?hr_29 ?hQ_29 (Or.inl ⟨?hw_29, ?hy_29⟩) ?hrest_29
                    case hi_29 => (simp only [List.getElem?_toArray, List.getElem?_cons_succ, List.getElem?_cons_zero]; exact rfl)
                    case hs_29 => kernel_rfl
                    case hf_29 => kernel_rfl
                    case hr_29 => kernel_rfl
                    case hQ_29 => exact fun _ _ _ h => h
                    case hw_29 => rfl
                    case hy_29 => (intro w _; go_simp; try with_reducible rfl)
                    try simp only [Act.put, List.setIfInBounds_toArray, List.set_cons_zero, List.set_cons_succ]
                    refine anyZ_free (i := 2) (oi := ?oi_30) (v := ?v_30) ?hi_30 ?hs_30 ?hf_30 ?hr_30 ?hQ_30 (Or.inl ⟨?hw_30, ?hy_30⟩) ?hrest_30
                    case hi_30 => (simp only [List.getElem?_toArray, List.getElem?_cons_succ, List.getElem?_cons_zero]; exact rfl)
                    case hs_30 => kernel_rfl
                    case hf_30 => kernel_rfl
                    case hr_30 => kernel_rfl
                    case hQ_30 => exact fun _ _ _ h => h
                    case hw_30 => rfl
                    case hy_30 => (intro w _; go_simp; try with_reducible rfl)
                    try simp only [Act.put, List.setIfInBounds_toArray, List.set_cons_zero, List.set_cons_succ]
                    refine anyZ_free (i := 3) (oi := ?oi_31) (v := ?v_31) ?hi_31 ?hs_31 ?hf_31 ?hr_31 ?hQ_31 (Or.inl ⟨?hw_31, ?hy_31⟩) ?hrest_31
                    case hi_31 => (simp only [List.getElem?_toArray, List.getElem?_cons_succ, List.getElem?_cons_zero]; exact rfl)
                    case hs_31 => kernel_rfl
                    case hf_31 => kernel_rfl
                    case hr_31 => kernel_rfl
                    case hQ_31 => exact fun _ _ _ h => h
                    case hw_31 => rfl
                    case hy_31 => (intro w _; go_simp; try with_reducible rfl)
                    try simp only [Act.put, List.setIfInBounds_toArray, List.set_cons_zero, List.set_cons_succ]
                    refine anyZ_free (i := 4) (oi := ?oi_32) (v := ?v_32) ?hi_32 ?hs_32 ?hf_32 ?hr_32 ?hQ_32 (Or.inl ⟨?hw_32, ?hy_32⟩) ?hrest_32
                    case hi_32 => (simp only [List.getElem?_toArray, List.getElem?_cons_succ, List.getElem?_cons_zero]; exact rfl)
                    case hs_32 => kernel_rfl
                    case hf_32 => kernel_rfl
                    case hr_32 => kernel_rfl
                    case hQ_32 => exact fun _ _ _ h => h
                    case hw_32 => rfl
                    case hy_32 => (intro w _; go_simp; try with_reducible rfl)
                    try simp only [Act.put, List.setIfInBounds_toArray, List.set_cons_zero, List.set_cons_succ]
                    refine anyZ_free (i := 5) (oi := ?oi_33) (v := ?v_33) ?hi_33 ?hs_33 ?hf_33 ?hr_33 ?hQ_33 (Or.inl ⟨?hw_33, ?hy_33⟩) ?hrest_33
                    case hi_33 => (simp only [List.getElem?_toArray, List.getElem?_cons_succ, List.getElem?_cons_zero]; exact rfl)
                    case hs_33 => kernel_rfl
                    case hf_33 => kernel_rfl
                    case hr_33 => kernel_rfl
                    case hQ_33 => exact fun _ _ _ h => h
                    case hw_33 => rfl
                    case hy_33 => (intro w _; go_simp; try with_reducible rfl)
                    try simp only [Act.put, List.setIfInBounds_toArray, List.set_cons_zero, List.set_cons_succ]
                    refine anyZ_free (i := 6) (oi := ?oi_34) (v := ?v_34) ?hi_34 ?hs_34 ?hf_34 ?hr_34 ?hQ_34 (Or.inl ⟨?hw_34, ?hy_34⟩) ?hrest_34
                    case hi_34 => (simp only [List.getElem?_toArray, List.getElem?_cons_succ, List.getElem?_cons_zero]; exact rfl)
                    case hs_34 => kernel_rfl
                    case hf_34 => kernel_rfl
                    case hr_34 => kernel_rfl
                    case hQ_34 => exact fun _ _ _ h => h
                    case hw_34 => rfl
                    case hy_34 => (intro w _; go_simp; try with_reducible rfl)
                    try simp only [Act.put, List.setIfInBounds_toArray, List.set_cons_zero, List.set_cons_succ]
                    refine anyZ_free (i := 7) (oi := ?oi_35) (v := ?v_35) ?hi_35 ?hs_35 ?hf_35 ?hr_35 ?hQ_35 (Or.inl ⟨?hw_35, ?hy_35⟩) ?hrest_35
                    case hi_35 => (simp only [List.getElem?_toArray, List.getElem?_cons_succ, List.getElem?_cons_zero]; exact rfl)
                    case hs_35 => kernel_rfl
                    case hf_35 => kernel_rfl
                    case hr_35 => kernel_rfl
                    case hQ_35 => exact fun _ _ _ h => h
                    case hw_35 => rfl
                    case hy_35 => (intro w _; go_simp; try with_reducible rfl)
                    try simp only [Act.put, List.setIfInBounds_toArray, List.set_cons_zero, List.set_cons_succ]
                    refine anyZ_free (i := 8) (oi := ?oi_36) (v := ?v_36) ?hi_36 ?hs_36 ?hf_36 ?hr_36 ?hQ_36 (Or.inl ⟨?hw_36, ?hy_36⟩) ?hrest_36
                    case hi_36 => (simp only [List.getElem?_toArray, List.getElem?_cons_succ, List.getElem?_cons_zero]; exact rfl)
                    case hs_36 => kernel_rfl
                    case hf_36 => kernel_rfl
                    case hr_36 => kernel_rfl
                    case hQ_36 => exact fun _ _ _ h => h
                    case hw_36 => rfl
                    case hy_36 => (intro w _; go_simp; try with_reducible rfl)
                    try simp only [Act.put, List.setIfInBounds_toArray, List.set_cons_zero, List.set_cons_succ]
                    refine anyZ_ready (rs := [9]) (by kernel_rfl) (by simp) ?_
                    refine (AllZ.cons (o := ?o_37) ?ho_37 (fun K hK => ?st_37) AllZ.nil)
                    case ho_37 => (simp only [List.getElem?_toArray, List.getElem?_cons_succ, List.getElem?_cons_zero]; exact rfl)
                    case st_37 =>
                      go_simp
                      (go_at_call 52; with_reducible refine c9.mono ?_; rintro e W9 ⟨rfl, b9⟩)
                      refine hK.out _ _ (by ((try dsimp only); (first | exact th.out.drew | exact th.out.drew.below b9 th.out.drew.lt))) (fun hHeld => ?_)
                      clear hK K
                      try simp only [Act.put, List.setIfInBounds_toArray, List.set_cons_zero, List.set_cons_succ]
                      refine anyZ_ready (rs := [10]) (by kernel_rfl) (by simp) ?_
                      refine (AllZ.last (o := ?o_38) ?ho_38 (by rfl) (fun K hK => ?st_38) AllZ.nil)
                      case ho_38 => (simp only [List.getElem?_toArray, List.getElem?_cons_succ, List.getElem?_cons_zero]; exact rfl)
                      case st_38 =>
                        rw [if_pos (by rfl)]; refine wp_storeArr 65 _ _ rfl H rfl (digW x y z n (i + 1)) rfl (th.out.drew.below b9 th.out.drew.lt) (by kernel_rfl) ?_; intro W10 hWn th1 zWn
                        refine hK.out _ _ ?_
                        clear hK K
                        try simp only [Act.put, List.setIfInBounds_toArray, List.set_cons_zero, List.set_cons_succ]
                        refine anyZ_done (by kernel_rfl) ?_ _
                        refine NoPanic.normal ?_
                        have p1 : Hid (PRow W10 B g k cap (padZ z n)) := by rw [hWn.out]; exact (((p.out.below ((Below.refl wr.heap.size wr).drew) p.out.lt)).below b9 p.out.lt).farCells (by omega) _ _
                        have hB1 : Below N w W10 := by rw [hWn.out]; exact below_setCells (below_via b9 hB.drew (by have := hN.out; simp only [World.size_drew]; omega)) (by omega) _ _
                        have htE := htN.out
                        clear hHeld hWn zWn b9 c9 p th hB hLk hL1 hDw hD hnext
                        go_wp2
                        go_roundw
                        case rel => exact ⟨i + 1, by omega, by rw [htE], p1, th1, hB1⟩
                        case measure => (simp only [intOf, Int.toNat_natCast]; have := hsN.out; have := hkE.out; omega)
                · obtain rfl : i = Ob.nblk n := by omega
                  rw [← hdig.out] at th
                  obtain ⟨D, hD⟩ : ∃ D, Hid (digS s z n = D) := ⟨_, rfl⟩
                  have hDw : Hid (Ob.Words32 D) := by rw [← hD.out]; exact digS_words s z n (by omega)
                  rw [hD.out] at th
                  have kn : ¬ ((64 * Ob.nblk n : Nat) : Int) < (k : Int) := by have := hkE.out; omega
                  have lB : B ≤ wr.heap.size := Nat.le_trans p.out.lb (Nat.le_of_lt p.out.lt)
                  go_upto_region 20 with (fail)
                  obtain ⟨i1, hi1, y1, y2, y0⟩ := wordInfo
                  have hown0 : Hid (wr.ownsRow B 64 1 (.slice none 0 0) 0 (arrL .u32 D 0)) := ⟨rfl, Or.inl ⟨rfl, rfl⟩⟩
                  clear p
                  obtain ⟨kk, hkk⟩ : ∃ kk, Hid (64 * Ob.nblk n = kk) := ⟨_, rfl⟩
                  rw [hkk.out]
                  go_wp2
                  go_loopw [12, 13] (fun s12 s13 wr => ∃ (j : Nat), j ≤ 8 ∧ s13 = .int .i64 (j : Nat) ∧ Hid (wr.ownsRow B 64 1 s12 j (arrL .u32 D j)) ∧ Hid (Arr wr .u32 H 8 D) ∧ B ≤ wr.heap.size ∧ Below N w wr) (fun _ s13 _ => 8 - (intOf s13).toNat)
                  case atStart => exact ⟨0, by omega, rfl, hown0, th, lB, hB⟩
                  case round =>
                    clear hown0 th lB hB
                    obtain ⟨j, hj, rfl, hown, th, lB, hB⟩ := hrel
                    by_cases hj8 : j < 8
                    · have q0 := th.out.c j hj8
                      have j0 : (j : Int) < 8 := by omega
                      have j1 : (0 : Int) ≤ (j : Int) := by omega
                      obtain ⟨X, hX⟩ : ∃ X, Hid (D j = X) := ⟨_, rfl⟩
                      rw [hX.out] at q0
                      have hwj : Hid (arrL .u32 D j ++ [.int .u32 (X : Nat)] = arrL .u32 D (j + 1)) := by
                        show _ = _
                        rw [← hX.out]
                        unfold arrL
                        rw [List.range_succ, List.map_append]
                        rfl
                      have hb1 : Below wr.heap.size wr (wr.alloc (.cells #[.int .u32 (X : Nat)] 64)) := (Below.refl wr.heap.size wr).alloc (Nat.le_refl _) _
                      have hown1 : Hid ((wr.alloc (.cells #[.int .u32 (X : Nat)] 64)).ownsRow B 64 1 u12 j (arrL .u32 D j)) := own_below hown.out hb1 (fun k h => (hown.out.lt k h).2)
                      have hnews : Hid (∀ (t : Nat) (u : Value), [Value.int .u32 (X : Nat)][t]? = some u → (wr.alloc (.cells #[.int .u32 (X : Nat)] 64)).cell? ((⟨wr.heap.size, 0, none⟩ : Addr).add t) = some u) := fun t u h => by
                        rw [Addr.add_mid, Nat.zero_add, World.cell?_alloc_new, List.getElem?_toArray]
                        exact h
                      have hBa : Below N w (wr.alloc (.cells #[.int .u32 (X : Nat)] 64)) := hB.alloc (by have := hB.size; have := hN.out; omega) _
                      have tha : Arr (wr.alloc (.cells #[.int .u32 (X : Nat)] 64)) .u32 H 8 D := th.out.alloc _
                      go_wp2_with (at_builtin; refine wpList_append_own _ rfl _ _ 62 rfl B 64 i1 _ 1 4 Tryd.underlying62 hi1 y0 y1 y2 rfl (by decide) _ j _ rfl hown1.out ⟨wr.heap.size, 0, none⟩ 1 1 _ rfl rfl hnews.out (by simp [Value.oneCell']) (by unfold maxLen; omega) (by omega) (by simp; omega) ?_; intro v' W11 ho hg hnil)
                      have bw : Below B (wr.alloc (.cells #[.int .u32 (X : Nat)] 64)) W11 := (Below.refl _ _).grown hg (by simp; omega) (fun k h => (hown1.out.lt k h).1)
                      have ho' : Hid (W11.ownsRow B 64 1 v' (j + 1) (arrL .u32 D (j + 1))) := by rw [← hwj.out]; exact ho
                      have th' : Hid (Arr W11 .u32 H 8 D) := tha.below bw lH6
                      have hB' : Below N w W11 := hBa.trans (bw.mono lNB)
                      have lB' : B ≤ W11.heap.size := by have := bw.size; simp only [World.size_alloc] at this; omega
                      clear ho hg hnil
                      go_roundw
                      case rel => exact ⟨j + 1, by omega, by go_num, ho', th', lB', hB'⟩
                      case measure => (simp only [intOf, Int.toNat_natCast]; omega)
                    · obtain rfl : j = 8 := by omega
                      rcases hown.out.2 with ⟨_, h8⟩ | ⟨gl, capl, cur, rfl, hgl, _⟩
                      · omega
                      have cB := rbytes32W gl 8 capl D hDw.out (by decide) (by decide) wr (arr_of_row hown.out).rd
                      go_wp2_with (go_at_call 53; with_reducible refine cB.mono ?_; rintro e W12 ⟨g12, cap12, rfl, lg12, y12, b12⟩)
                      go_ret
                      exact ⟨g12, cap12, rfl, by have := hB.size; omega, by rw [hD.out]; exact y12, by rw [hN.out]; exact below_via b12 hB (by have := hB.size; have := hN.out; omega)⟩
end Go.Proofs.YtdhbkhmknnlmnaaDoor

namespace Go.Proofs.YtdhbkhmknnlmnaaDoor
open Go.RowKit Go.Proofs
set_option linter.unusedVariables false
set_option linter.unusedSimpArgs false
attribute [local go_sem ↓] Go.wp_at_zero Go.wp_at_succ

theorem wp_full16 {o : Oper} {a : Act} {w : World} {K : Act → World → Prop} {Q : Exit → Act → World → Prop} (s x : Operand)
    (ho : o.op = .call { callee := .builtin .append, args := #[s, x], argTypes := #[34, 34] }) (g b p q : Nat) (hz : Bys w g 0 8 (Ob.byteAt p)) (hu : Bys w b 0 8 (Ob.byteAt q))
    (hs : a.eval s = .slice (some ⟨g, 0, none⟩) 8 8) (hx : a.eval x = .slice (some ⟨b, 0, none⟩) 8 8)
    (h : ∀ g' cap' w', w'.ownsRow w.heap.size 5 1 (.slice (some ⟨g', 0, none⟩) 16 cap') 16 (vals (byteOf (pair p q)) 16) → Below w.heap.size w w' → K (a.put o.dst (.slice (some ⟨g', 0, none⟩) 16 cap')) w') : o.wp Tryd.prog a w K Q := by
  refine wp_fullO s x ho g 8 b 0 8 8 _ _ hz hu (by decide) (by decide) (by decide) hs hx fun cap' w' h1 h2 => h _ cap' w' ?_ h2
  rw [show (8 : Nat) + 8 = 16 from rfl, vals_congr _ (byteOf (pair p q)) 16 fun i hi => joinB_pair p q i hi] at h1
  exact h1
theorem cap_of_own {w : World} {base n cap g : Nat} {e : TypeId} {xs : List Value} (h : w.ownsRow base e 1 (.slice (some ⟨g, 0, none⟩) n cap) n xs) : n ≤ cap := by
  rcases h.2 with ⟨h0, _⟩ | ⟨g', cap', cur, h0, _, _, h3, _⟩
  · cases h0
  · cases h0; exact h3
set_option maxRecDepth 4000 in
set_option maxHeartbeats 4000000 in
theorem ask_core (ux uy vx vy : Int) (p q m c : Nat) (ad : Option Addr) (hm : m ≤ 2000) (u : Nat → Nat) (D : Nat → Nat) (N r : Nat) (w : World)
   (hS : SrcY w.heap.size w ad m u) (hr : (N : Int) % 72057593894066549 = (r : Int))
   (cU : ∀ w, Calls Tryd.prog 29 #[.agg #[.int .u64 ux, .int .u64 uy]] w fun e w' => ∃ g, e = .returned (.slice (some ⟨g, 0, none⟩) 8 8) ∧ w.heap.size ≤ g ∧ Bys w' g 0 8 (Ob.byteAt p) ∧ Below w.heap.size w w')
   (cV : ∀ w, Calls Tryd.prog 29 #[.agg #[.int .u64 vx, .int .u64 vy]] w fun e w' => ∃ g, e = .returned (.slice (some ⟨g, 0, none⟩) 8 8) ∧ w.heap.size ≤ g ∧ Bys w' g 0 8 (Ob.byteAt q) ∧ Below w.heap.size w w')
   (cS : ∀ (W : World) (g cap : Nat), 16 + m ≤ cap → Bys W g 0 (16 + m) (askZ p q u) → Calls Tryd.prog 31 #[.string schS, .slice (some ⟨g, 0, none⟩) (16 + m) cap] W fun e w' => ∃ g cap, e = .returned (.slice (some ⟨g, 0, none⟩) 32 cap) ∧ W.heap.size ≤ g ∧ Bys w' g 0 32 D ∧ Below W.heap.size W w')
   (cN : ∀ (W : World) (g cap : Nat), Bys W g 0 32 D → Calls Tryd.prog 30 #[.slice (some ⟨g, 0, none⟩) 32 cap] W fun e w' => e = .returned (.int .u64 (N : Nat)) ∧ W = w') :
    Calls Tryd.prog 15 #[.agg #[.int .u64 ux, .int .u64 uy], .agg #[.int .u64 vx, .int .u64 vy], .slice ad m c] w fun e w' => e = .returned (.int .u64 (r : Nat)) ∧ Below w.heap.size w w' := by
  unfold schS at cS
  have hS' : Hid (SrcY w.heap.size w ad m u) := hS
  have hr' : Hid ((N : Int) % 72057593894066549 = (r : Int)) := hr
  clear hS hr
  go_enter Tryd.func15, Tryd.ntmps15
  go_wp2
  go_region_held3 (fun w' => w'.cell? ⟨w.heap.size, 0, none⟩ = some (.int .u64 ux) ∧ w'.cell? ⟨w.heap.size, 1, none⟩ = some (.int .u64 uy) ∧ w'.cell? ⟨w.heap.size + 1, 0, none⟩ = some (.int .u64 vx) ∧ w'.cell? ⟨w.heap.size + 1, 1, none⟩ = some (.int .u64 vy)) (go_keep)
    (first
      | ((go_at_call 29; first
          | ((with_reducible refine (cU _).mono ?_); rintro e w1 ⟨g1, rfl, l1, y1, b1⟩; have z1 := b1.size; (try simp only [szs] at z1 l1); have q1 := own2 b1 w.heap.size (by first | omega | (simp only [szs]; omega)); have q1' := own2 b1 (w.heap.size + 1) (by first | omega | (simp only [szs]; omega)))
          | ((with_reducible refine (cV _).mono ?_); rintro e w2 ⟨g2, rfl, l2, y2, b2⟩; have z2 := b2.size; (try simp only [szs] at z2 l2); have y1' := y1.below b2 (by first | exact y1.lt | (have := y1.lt; simp only [szs]; omega)); have q2 := own2 b2 w.heap.size (by first | omega | (simp only [szs]; omega)); have q2' := own2 b2 (w.heap.size + 1) (by first | omega | (simp only [szs]; omega)))))
      | ((rw [if_pos (by rfl)]; (refine wp_full16 _ _ rfl g1 g2 p q (by first | exact y1' | exact y1'.drew) (by first | exact y2 | exact y2.drew) rfl rfl ?_); intro g3 c3 w3 ho hb3; have z3 := hb3.size; (try simp only [szs] at z3); have q3 := own2 hb3 w.heap.size (by first | omega | (simp only [szs]; omega)); have q3' := own2 hb3 (w.heap.size + 1) (by first | omega | (simp only [szs]; omega)))))
  have hB3 : Below w.heap.size w w3 := by (repeat' (first | (with_reducible first | exact Below.refl _ _ | assumption | refine Below.alloc ?_ ?_ _ | refine Below.drew ?_ | refine below_drewN ?_ _ | refine Below.setCell ?_ ?_ _ | refine below_via (by with_reducible assumption) ?_ ?_) | omega | (simp only [szs]; omega) | (simp only [szs] at *; omega)))
  have hr := hr'.out
  clear hr'
  go_wp2_with (first
    | (at_builtin; refine wpList_appY rfl _ _ rfl w2.heap.size g3 16 c3 _ rfl ho hb3.size w.heap.size ad m c u rfl (hS'.out.below hB3) (by decide) (by omega) ?_; intro g4 c4 w4 ho4 hb4; have y4 : Bys w4 g4 0 (16 + m) (askZ p q u) := bys_of_row ho4; have hc4 := cap_of_own ho4; have z4 := hb4.size; have hB4 : Below w.heap.size w w4 := by (repeat' (first | (with_reducible first | exact Below.refl _ _ | assumption | refine Below.alloc ?_ ?_ _ | refine Below.drew ?_ | refine below_drewN ?_ _ | refine Below.setCell ?_ ?_ _ | refine below_via (by with_reducible assumption) ?_ ?_) | omega | (simp only [szs]; omega) | (simp only [szs] at *; omega))))
    | (go_at_call 31; (with_reducible refine (cS _ _ _ hc4 y4).mono ?_); rintro e w5 ⟨g5, c5, rfl, l5, y5, b5⟩; have z5 := b5.size)
    | (go_at_call 30; (with_reducible refine (cN _ _ _ y5).mono ?_); rintro e w6 ⟨rfl, rfl⟩))
  go_ret -- @HERE@
  exact ⟨by first | rfl | (rw [← hr]; rfl), by have := hB4.size; (repeat' (first | (with_reducible first | exact Below.refl _ _ | assumption | refine Below.alloc ?_ ?_ _ | refine Below.drew ?_ | refine below_drewN ?_ _ | refine Below.setCell ?_ ?_ _ | refine below_via (by with_reducible assumption) ?_ ?_) | omega | (simp only [szs]; omega) | (simp only [szs] at *; omega)))⟩
theorem askW (a k : Ob.Ep) (ad : Option Addr) (m c : Nat) (hm : m ≤ 2000) (u : Nat → Nat) (hu : ∀ i, u i < 256) (w : World) (hS : SrcY w.heap.size w ad m u) :
    Calls Tryd.prog 15 #[edV a, edV k, .slice ad m c] w fun e w' => e = .returned (.int .u64 (askN (Ob.edN a) (Ob.edN k) u m : Nat)) ∧ Below w.heap.size w w' :=
  ask_core _ _ _ _ (Ob.edN a) (Ob.edN k) m c ad hm u (lowBy (digS schS (askZ (Ob.edN a) (Ob.edN k) u) (16 + m))) (Ob.lowN (lowBy (digS schS (askZ (Ob.edN a) (Ob.edN k) u) (16 + m))) 8) (askN (Ob.edN a) (Ob.edN k) u m) w hS
    (by unfold askN; omega) (gbytesW a) (gbytesW k)
    (fun W g cap hc hy => rsum_core schS (by decide) (some ⟨g, 0, none⟩) (16 + m) cap (by omega) hc _ (fun i => askZ_lt _ _ _ hu i) W (Or.inr ⟨g, 0, rfl, hy⟩))
    (fun W g cap hy => rnumW g 32 cap (by decide) (by decide) _ (lowBy_lt _) W (hy.less (by decide)))
end Go.Proofs.YtdhbkhmknnlmnaaDoor

namespace Go.Proofs.YtdhbkhmknnlmnaaDoor
open Go.RowKit Go.Proofs
set_option linter.unusedVariables false
set_option linter.unusedSimpArgs false
attribute [local go_sem ↓] Go.wp_at_zero Go.wp_at_succ
attribute [local irreducible] Ob.gmul Ob.gadd
theorem keyOf (k : Nat) (q : Bool) (h : isKey k = q) (w : World) : Calls Tryd.prog 11 #[.int .u64 k] w fun e w' => e = .returned (.bool q) ∧ w = w' := by rw [← h]; exact keyW k w
theorem schnorrPoints_walk (a0 : Int) (w : World) (w0 : (Lit.int .u64 a0).wf = true) (hT : Tabs w) :
    Calls Tryd.prog 3 #[.int .u64 a0] w fun e w' => e = .returned (.bool true) ∧ Below w.heap.size w w' := by
  obtain ⟨k, rfl, hk⟩ := word_of w0
  have cu := up9W w hT
  cases h : isKey k with
  | false => exact spoints_no k w cu (fun W _ => spointNo k h W) (keyOf k _ h)
  | true => exact spoints_yes k _ _ w cu (fun W _ => spointW k h W) (keyOf k _ h) (gtimesG k hk)
theorem raddS9 (a b : Nat) (ha : a < 18446744073709551616) (hb : b < 18446744073709551616) (w : World) :
    Calls Tryd.prog 16 #[.int .u64 72057593894066549, .int .u64 a, .int .u64 b] w fun e w' => e = .returned (.int .u64 ((a + b) % 72057593894066549 : Nat)) ∧ w = w' := by
  have := radd_any 72057593894066549 a b w ⟨by decide, by decide⟩ ha hb
  rw [Ob.add_yes ⟨by decide, by decide⟩] at this
  exact this
theorem rmulS9 (a b : Nat) (ha : a < 18446744073709551616) (hb : b < 18446744073709551616) (w : World) :
    Calls Tryd.prog 17 #[.int .u64 72057593894066549, .int .u64 a, .int .u64 b] w fun e w' => e = .returned (.int .u64 (a * b % 72057593894066549 : Nat)) ∧ w = w' := by
  have := rmul_any 72057593894066549 a b w ⟨by decide, by decide⟩ ha hb
  rw [Ob.mul_yes ⟨by decide, by decide⟩] at this
  exact this
theorem ssigns_out (ad : Option Addr) (m c : Nat) (h : 2000 < m) (k n : Int) (w : World)
   (cu : Calls Tryd.prog 9 #[] w fun e w' => e = .returned (.bool true) ∧ Below w.heap.size w w') :
    Calls Tryd.prog 4 #[.int .u64 k, .int .u64 n, .slice ad m c] w fun e w' => e = .returned (.bool true) ∧ Below w.heap.size w w' := by
  have h1 : (2000 : Int) < (m : Int) := by omega
  clear h
  go_enter Tryd.func4, Tryd.ntmps4
  go_wp2_with (go_at_call 9; (with_reducible refine cu.mono ?_); rintro e w1 ⟨rfl, b1⟩)
  go_ret
  exact ⟨rfl, by (repeat' (first | (with_reducible first | exact Below.refl _ _ | assumption | refine Below.alloc ?_ ?_ _ | refine Below.drew ?_ | refine below_drewN ?_ _ | refine Below.setCell ?_ ?_ _ | refine below_via (by with_reducible assumption) ?_ ?_) | omega | (simp only [szs]; omega) | (simp only [szs] at *; omega)))⟩
theorem equal_Sig3 (w : World) (x y z : Int) : (Op.equalIn 10000 36 (.agg #[.int .u64 x, .int .u64 y, .int .u64 z]) (.agg #[.int .u64 x, .int .u64 y, .int .u64 z])).run Tryd.prog w = .ok true w := by rw [equal_Sig]; simp
set_option maxRecDepth 4000 in
set_option maxHeartbeats 4000000 in
theorem ssigns_no (ad : Option Addr) (m c : Nat) (hm : m ≤ 2000) (k n : Int) (p q : Bool) (hpq : (p && q) = false) (w : World)
   (cu : Calls Tryd.prog 9 #[] w fun e w' => e = .returned (.bool true) ∧ Below w.heap.size w w')
   (cs : ∀ W, Below w.heap.size w W → Calls Tryd.prog 14 #[.int .u64 k, .int .u64 n, .slice ad m c] W fun e w' => e = .returned (.tuple #[.agg #[.int .u64 0, .int .u64 0, .int .u64 0], .iface 31 (.int .i64 1)]) ∧ Below W.heap.size W w')
   (ck : ∀ w, Calls Tryd.prog 11 #[.int .u64 k] w fun e w' => e = .returned (.bool p) ∧ w = w')
   (cn : ∀ w, Calls Tryd.prog 11 #[.int .u64 n] w fun e w' => e = .returned (.bool q) ∧ w = w') :
    Calls Tryd.prog 4 #[.int .u64 k, .int .u64 n, .slice ad m c] w fun e w' => e = .returned (.bool true) ∧ Below w.heap.size w w' := by
  have h1 : ¬ (2000 : Int) < (m : Int) := by omega
  have ec := fun w => eql_code w 1 1
  have he := fun w => equal_Sig3 w 0 0 0
  cases p with
  | false =>
    clear hpq
    go_enter Tryd.func4, Tryd.ntmps4
    go_wp2_with (first | (go_at_call 9; (with_reducible refine cu.mono ?_); rintro e w1 ⟨rfl, b1⟩; have z1 := b1.size) | (go_at_call 14; (with_reducible refine (cs _ b1).mono ?_); rintro e w2 ⟨rfl, b2⟩; have z2 := b2.size) | (first | (go_at_call 11; first | (with_reducible refine (ck _).mono ?_; rintro e w' ⟨rfl, rfl⟩) | (with_reducible refine (cn _).mono ?_; rintro e w' ⟨rfl, rfl⟩))))
    go_ret
    exact ⟨rfl, by (repeat' (first | (with_reducible first | exact Below.refl _ _ | assumption | refine Below.alloc ?_ ?_ _ | refine Below.drew ?_ | refine below_drewN ?_ _ | refine Below.setCell ?_ ?_ _ | refine below_via (by with_reducible assumption) ?_ ?_) | omega | (simp only [szs]; omega) | (simp only [szs] at *; omega)))⟩
  | true =>
    rw [Bool.true_and] at hpq
    subst hpq
    go_enter Tryd.func4, Tryd.ntmps4
    go_wp2_with (first | (go_at_call 9; (with_reducible refine cu.mono ?_); rintro e w1 ⟨rfl, b1⟩; have z1 := b1.size) | (go_at_call 14; (with_reducible refine (cs _ b1).mono ?_); rintro e w2 ⟨rfl, b2⟩; have z2 := b2.size) | (first | (go_at_call 11; first | (with_reducible refine (ck _).mono ?_; rintro e w' ⟨rfl, rfl⟩) | (with_reducible refine (cn _).mono ?_; rintro e w' ⟨rfl, rfl⟩))))
    go_ret
    exact ⟨rfl, by (repeat' (first | (with_reducible first | exact Below.refl _ _ | assumption | refine Below.alloc ?_ ?_ _ | refine Below.drew ?_ | refine below_drewN ?_ _ | refine Below.setCell ?_ ?_ _ | refine below_via (by with_reducible assumption) ?_ ?_) | omega | (simp only [szs]; omega) | (simp only [szs] at *; omega)))⟩
set_option maxRecDepth 4000 in
set_option maxHeartbeats 8000000 in
theorem ssigns_yes (ad : Option Addr) (m c : Nat) (hm : m ≤ 2000) (u : Nat → Nat) (k n ax ay kx ky q r z : Int) (w : World) (hS : SrcY w.heap.size w ad m u)
   (cu : Calls Tryd.prog 9 #[] w fun e w' => e = .returned (.bool true) ∧ Below w.heap.size w w')
   (cs : ∀ W, Below w.heap.size w W → Calls Tryd.prog 14 #[.int .u64 k, .int .u64 n, .slice ad m c] W fun e w' => e = .returned (.tuple #[.agg #[.int .u64 ax, .int .u64 ay, .int .u64 z], .nilIface]) ∧ Below W.heap.size W w')
   (ck : ∀ w, Calls Tryd.prog 11 #[.int .u64 k] w fun e w' => e = .returned (.bool true) ∧ w = w')
   (cn : ∀ w, Calls Tryd.prog 11 #[.int .u64 n] w fun e w' => e = .returned (.bool true) ∧ w = w')
   (tn : ∀ w, Calls Tryd.prog 12 #[.agg #[.int .u64 223588670687113535, .int .u64 82055451961885530], .int .u64 n] w fun e w' => e = .returned (.agg #[.int .u64 ax, .int .u64 ay]) ∧ Below w.heap.size w w')
   (tk : ∀ w, Calls Tryd.prog 12 #[.agg #[.int .u64 223588670687113535, .int .u64 82055451961885530], .int .u64 k] w fun e w' => e = .returned (.agg #[.int .u64 kx, .int .u64 ky]) ∧ Below w.heap.size w w')
   (cq : ∀ W, SrcY W.heap.size W ad m u → Calls Tryd.prog 15 #[.agg #[.int .u64 ax, .int .u64 ay], .agg #[.int .u64 kx, .int .u64 ky], .slice ad m c] W fun e w' => e = .returned (.int .u64 q) ∧ Below W.heap.size W w')
   (cm : ∀ w, Calls Tryd.prog 17 #[.int .u64 72057593894066549, .int .u64 q, .int .u64 k] w fun e w' => e = .returned (.int .u64 r) ∧ w = w')
   (ca : ∀ w, Calls Tryd.prog 16 #[.int .u64 72057593894066549, .int .u64 n, .int .u64 r] w fun e w' => e = .returned (.int .u64 z) ∧ w = w') :
    Calls Tryd.prog 4 #[.int .u64 k, .int .u64 n, .slice ad m c] w fun e w' => e = .returned (.bool true) ∧ Below w.heap.size w w' := by
  have h1 : ¬ (2000 : Int) < (m : Int) := by omega
  have he := fun w => equal_same9 w ax ay
  have cg := ggenW
  have hS' : Hid (SrcY w.heap.size w ad m u) := hS
  clear hS
  go_enter Tryd.func4, Tryd.ntmps4
  go_upto_region 5 with (first | (go_at_call 9; (with_reducible refine cu.mono ?_); rintro e w1 ⟨rfl, b1⟩; have z1 := b1.size) | (go_at_call 14; (with_reducible refine (cs _ b1).mono ?_); rintro e w2 ⟨rfl, b2⟩; have z2 := b2.size))
  have t1 : Three (w2.alloc (.cells #[.int .u64 ax, .int .u64 ay, .int .u64 z] 36)) w2.heap.size (.int .u64 ax) (.int .u64 ay) (.int .u64 z) := by (repeat' (first | (with_reducible first | assumption | exact Three.own (by with_reducible assumption) | refine Three.set ?_ _ _ _ | refine Own3.set ?_ _ _ _ | refine Three.drew ?_ | refine Three.drewN ?_ _ | refine Own3.drew ?_ | refine Own3.drewN ?_ _ | (refine Three.new ?_; simp only [szs]; done) | (refine Own3.new ?_; simp only [szs]; done) | refine Three.alloc ?_ _ | refine Own3.alloc ?_ _ | refine Three.far ?_ ?_ _ _ | refine Own3.far ?_ ?_ _ _ | refine Three.via (by with_reducible assumption) ?_ ?_ | refine Own3.via (by with_reducible assumption) ?_ ?_) | omega | (simp only [szs]; omega)))
  have hB1 : Below w.heap.size w (w2.alloc (.cells #[.int .u64 ax, .int .u64 ay, .int .u64 z] 36)) := by (repeat' (first | (with_reducible first | exact Below.refl _ _ | assumption | refine Below.alloc ?_ ?_ _ | refine Below.drew ?_ | refine below_drewN ?_ _ | refine Below.setCell ?_ ?_ _ | refine below_via (by with_reducible assumption) ?_ ?_) | omega | (simp only [szs]; omega) | (simp only [szs] at *; omega)))
  generalize (w2.alloc (.cells #[.int .u64 ax, .int .u64 ay, .int .u64 z] 36)) = V at *
  generalize w2.heap.size = bs at *
  clear b1 z1 b2 z2 cu cs
  go_upto_region 8 with (first | (first | (go_at_call 11; first | (with_reducible refine (ck _).mono ?_; rintro e w' ⟨rfl, rfl⟩) | (with_reducible refine (cn _).mono ?_; rintro e w' ⟨rfl, rfl⟩))) | (go_at_call 13; (with_reducible refine (cg _).mono ?_); rintro e w3 ⟨rfl, b3⟩; have z3 := b3.size) | (go_at_call 12; (with_reducible refine (tn _).mono ?_); rintro e w4 ⟨rfl, b4⟩; have z4 := b4.size))
  have l1 := t1.lt
  have zV := hB1.size
  have t2 : Three (w4.alloc (.cells #[.int .u64 ax, .int .u64 ay] 25)) bs (.int .u64 ax) (.int .u64 ay) (.int .u64 z) := by (repeat' (first | (with_reducible first | assumption | exact Three.own (by with_reducible assumption) | refine Three.set ?_ _ _ _ | refine Own3.set ?_ _ _ _ | refine Three.drew ?_ | refine Three.drewN ?_ _ | refine Own3.drew ?_ | refine Own3.drewN ?_ _ | (refine Three.new ?_; simp only [szs]; done) | (refine Own3.new ?_; simp only [szs]; done) | refine Three.alloc ?_ _ | refine Own3.alloc ?_ _ | refine Three.far ?_ ?_ _ _ | refine Own3.far ?_ ?_ _ _ | refine Three.via (by with_reducible assumption) ?_ ?_ | refine Own3.via (by with_reducible assumption) ?_ ?_) | omega | (simp only [szs]; omega)))
  have t3 : Two (w4.alloc (.cells #[.int .u64 ax, .int .u64 ay] 25)) w4.heap.size (.int .u64 ax) (.int .u64 ay) := by (repeat' (first | (with_reducible first | assumption | exact Two.own (by with_reducible assumption) | refine Two.set ?_ _ _ | refine Own2.set ?_ _ _ | refine Two.drew ?_ | refine Two.drewN ?_ _ | refine Own2.drew ?_ | refine Own2.drewN ?_ _ | (refine Two.new ?_; simp only [szs]; done) | (refine Own2.new ?_; simp only [szs]; done) | refine Two.alloc ?_ _ | refine Own2.alloc ?_ _ | refine Two.far ?_ ?_ _ _ | refine Own2.far ?_ ?_ _ _ | refine Two.via (by with_reducible assumption) ?_ ?_ | refine Own2.via (by with_reducible assumption) ?_ ?_) | omega | (simp only [szs]; omega)))
  have hB2 : Below w.heap.size w (w4.alloc (.cells #[.int .u64 ax, .int .u64 ay] 25)) := by (repeat' (first | (with_reducible first | exact Below.refl _ _ | assumption | refine Below.alloc ?_ ?_ _ | refine Below.drew ?_ | refine below_drewN ?_ _ | refine Below.setCell ?_ ?_ _ | refine below_via (by with_reducible assumption) ?_ ?_) | omega | (simp only [szs]; omega) | (simp only [szs] at *; omega)))
  have n1 : bs ≠ w4.heap.size := by omega
  have n2 : w4.heap.size ≠ bs := by omega
  generalize (w4.alloc (.cells #[.int .u64 ax, .int .u64 ay] 25)) = V2 at *
  generalize w4.heap.size = ba at *
  clear b3 z3 b4 z4 t1 hB1 l1 zV ck cn
  have hb2 : Hid (SrcY V2.heap.size V2 ad m u) := hS'.out.to hB2 (Nat.le_refl _)
  have ⟨d1, d2, d3, d4, d5⟩ := t3
  have ⟨e1, e2, e3, e4, e5, e6, e7⟩ := t2
  have zB := hB2.size
  go_region_held3 (fun w' => w'.cell? ⟨ba, 0, none⟩ = some (.int .u64 ax) ∧ w'.cell? ⟨ba, 1, none⟩ = some (.int .u64 ay)) (go_keep)
    (first
      | (go_at_call 13; (with_reducible refine (cg _).mono ?_); rintro e w5 ⟨rfl, b5⟩; have z5 := b5.size; (try simp only [szs] at z5); have q5 := own2 b5 ba (by first | omega | (simp only [szs]; omega)); have q5' := own3 b5 bs (by first | omega | (simp only [szs]; omega)))
      | (go_at_call 12; (with_reducible refine (tk _).mono ?_); rintro e w6 ⟨rfl, b6⟩; have z6 := b6.size; (try simp only [szs] at z6); have q6 := own2 b6 ba (by first | omega | (simp only [szs]; omega)); have q6' := own3 b6 bs (by first | omega | (simp only [szs]; omega)))
      | (go_at_call 15; (with_reducible refine (cq _ ((hb2.out.below (B := V2.heap.size) (by (repeat' (first | (with_reducible first | exact Below.refl _ _ | assumption | refine Below.alloc ?_ ?_ _ | refine Below.drew ?_ | refine below_drewN ?_ _ | refine Below.setCell ?_ ?_ _ | refine below_via (by with_reducible assumption) ?_ ?_) | omega | (simp only [szs]; omega) | (simp only [szs] at *; omega))))).mono (by first | omega | (simp only [szs]; omega)))).mono ?_); rintro e w7 ⟨rfl, b7⟩; have z7 := b7.size; (try simp only [szs] at z7); have q7 := own2 b7 ba (by first | omega | (simp only [szs]; omega)); have q7' := own3 b7 bs (by first | omega | (simp only [szs]; omega)); have hB7 : Hid (Below w.heap.size w w7) := (by show Below _ _ _; (repeat' (first | (with_reducible first | exact Below.refl _ _ | assumption | refine Below.alloc ?_ ?_ _ | refine Below.drew ?_ | refine below_drewN ?_ _ | refine Below.setCell ?_ ?_ _ | refine below_via (by with_reducible assumption) ?_ ?_) | omega | (simp only [szs]; omega) | (simp only [szs] at *; omega))))))
  have s3 : Two w7 ba (.int .u64 ax) (.int .u64 ay) := by (repeat' (first | (with_reducible first | assumption | exact Two.own (by with_reducible assumption) | refine Two.set ?_ _ _ | refine Own2.set ?_ _ _ | refine Two.drew ?_ | refine Two.drewN ?_ _ | refine Own2.drew ?_ | refine Own2.drewN ?_ _ | (refine Two.new ?_; simp only [szs]; done) | (refine Own2.new ?_; simp only [szs]; done) | refine Two.alloc ?_ _ | refine Own2.alloc ?_ _ | refine Two.far ?_ ?_ _ _ | refine Own2.far ?_ ?_ _ _ | refine Two.via (by with_reducible assumption) ?_ ?_ | refine Own2.via (by with_reducible assumption) ?_ ?_) | omega | (simp only [szs]; omega)))
  have s2 : Three w7 bs (.int .u64 ax) (.int .u64 ay) (.int .u64 z) := by (repeat' (first | (with_reducible first | assumption | exact Three.own (by with_reducible assumption) | refine Three.set ?_ _ _ _ | refine Own3.set ?_ _ _ _ | refine Three.drew ?_ | refine Three.drewN ?_ _ | refine Own3.drew ?_ | refine Own3.drewN ?_ _ | (refine Three.new ?_; simp only [szs]; done) | (refine Own3.new ?_; simp only [szs]; done) | refine Three.alloc ?_ _ | refine Own3.alloc ?_ _ | refine Three.far ?_ ?_ _ _ | refine Own3.far ?_ ?_ _ _ | refine Three.via (by with_reducible assumption) ?_ ?_ | refine Own3.via (by with_reducible assumption) ?_ ?_) | omega | (simp only [szs]; omega)))
  clear q5 q5' b5 z5 q6 q6' b6 z6 q7 q7' b7 z7 t2 t3 d1 d2 d3 d4 d5 e1 e2 e3 e4 e5 e6 e7 zB hB2 cq tn tk hb2
  have hB8 := hB7.out
  clear hB7
  have ⟨d1, d2, d3, d4, d5⟩ := s3
  have ⟨e1, e2, e3, e4, e5, e6, e7⟩ := s2
  go_wp2
  go_region_held3 (fun w' => w'.cell? ⟨ba, 0, none⟩ = some (.int .u64 ax) ∧ w'.cell? ⟨ba, 1, none⟩ = some (.int .u64 ay) ∧ w'.cell? ⟨bs, 0, none⟩ = some (.int .u64 ax) ∧ w'.cell? ⟨bs, 1, none⟩ = some (.int .u64 ay) ∧ w'.cell? ⟨bs, 2, none⟩ = some (.int .u64 z)) (go_keep)
    ((first | (go_at_call 17; first | (with_reducible refine (cm _).mono ?_; rintro e w' ⟨rfl, rfl⟩)) | (go_at_call 16; first | (with_reducible refine (ca _).mono ?_; rintro e w' ⟨rfl, rfl⟩))))
  go_wp2
  go_ret -- @HERE@
  exact ⟨rfl, by (repeat' (first | (with_reducible first | exact Below.refl _ _ | assumption | refine Below.alloc ?_ ?_ _ | refine Below.drew ?_ | refine below_drewN ?_ _ | refine Below.setCell ?_ ?_ _ | refine below_via (by with_reducible assumption) ?_ ?_) | omega | (simp only [szs]; omega) | (simp only [szs] at *; omega)))⟩
theorem schnorrSigns_walk (a0 a1 : Int) (a2 : Option Addr) (len2 cap2 : Nat) (z2 : List Int) (w : World) (w0 : (Lit.int .u64 a0).wf = true) (w1 : (Lit.int .u64 a1).wf = true) (w2 : IsRow .u8 w a2 len2 cap2 z2) (hT : Tabs w) :
    Calls Tryd.prog 4 #[.int .u64 a0, .int .u64 a1, .slice a2 len2 cap2] w fun e w' => e = .returned (.bool true) ∧ Below w.heap.size w w' := by
  obtain ⟨k, rfl, hk⟩ := word_of w0
  obtain ⟨n, rfl, hn⟩ := word_of w1
  obtain ⟨u, _, _, hu, hs, _, _⟩ := srcY_of_isRow w2
  have cu := up9W w hT
  by_cases h : 2000 < len2
  · exact ssigns_out a2 len2 cap2 h _ _ w cu
  · cases h1 : isKey k && isKey n with
    | false => exact ssigns_no a2 len2 cap2 (by omega) k n _ _ h1 w cu (fun W _ => ssignNo k n h1 _ W) (keyOf k _ rfl) (keyOf n _ rfl)
    | true =>
      obtain ⟨hk1, hn1⟩ := Bool.and_eq_true_iff.1 h1
      have lk := of_decide_eq_true hk1
      have ln := of_decide_eq_true hn1
      exact ssigns_yes a2 len2 cap2 (by omega) u k n _ _ _ _ (sigQ k n u len2 : Nat) _ _ w hs cu (fun W hB => ssignW k n hk1 hn1 a2 len2 cap2 (by omega) u hu W (hT.below hB hT.lt) (hs.to hB (Nat.le_refl _))) (keyOf k _ hk1) (keyOf n _ hn1)
        (gtimesG n hn) (gtimesG k hk) (fun W hS => askW _ _ a2 len2 cap2 (by omega) u hu W hS) (rmulS9 _ k (word_rest _) hk) (raddS9 n _ hn (word_rest _))
end Go.Proofs.YtdhbkhmknnlmnaaDoor

namespace Go.Proofs.YtdhbkhmknnlmnaaDoor
open Go.ChangeShapes Go.WideShapes Go.ChangeAt Go.RowKit
set_option linter.unusedVariables false
set_option linter.unusedSimpArgs false

def firstI : List Int := Ob.firstT.map Int.ofNat
def rowsI : List (List Int) := Ob.sigT.map fun l => l.map Int.ofNat
def plcI : List (List Int) := Ob.plcT.map fun l => l.map Int.ofNat
def laidTab : List (String × DataW Unit) := Rows.schnorrPointsRow.laid
theorem laidTab_eq : laidTab = [("obol/blake.beginning", Lib.tabData .u32 firstI), ("obol/blake.rows", .agg (rowsI.map (Lib.tabData .u8))), ("obol/blake.places", .agg (plcI.map (Lib.tabData .u8)))] := rfl

/-- A table of rows, cell by cell. -/
theorem cells_of_tab2 {H : Type} {enc : TypeId × Value → H} {P : Program} {w : World} {base : Nat} {sp : Nat → Bool} {held : Bool} {fuel : Nat} {t e1 e : TypeId} {n m : Nat} {k : IntKind} {cs : List Value} {zss : List (List Int)} {p : List MemPlace}
    (ht : P.underlying t = some (.array n e1)) (he1 : P.underlying e1 = some (.array m e)) (he : P.underlying e = some (.int k)) (hce : P.cellsOf e = 1) (hce1 : P.cellsOf e1 = m) (hct : P.cellsOf t = n * m)
    (h : DataW.trod enc P w base sp held fuel t cs = some (.agg (zss.map (Lib.tabData k)), p)) (i j : Nat) (hi : i < n) (hj : j < m) : cs[i * m + j]? = some (.int k ((zss.getD i []).getD j 0)) := by
  cases fuel with
  | zero => simp [DataW.trod] at h
  | succ fuel =>
    simp only [DataW.trod, ht, hce1, hct] at h
    split at h
    · rename_i hl
      obtain ⟨xs, hm, hx⟩ := Option.map_eq_some_iff.1 h
      have hxs : xs.map (·.1) = zss.map (Lib.tabData (H := H) k) := by
        have := congrArg Prod.fst hx
        simpa using this
      have hxl : xs.length = n := by simpa using Lib.mapM_length hm
      have hzl : zss.length = n := by
        have := congrArg List.length hxs
        simp at this
        omega
      obtain ⟨b, hb, hf⟩ := Lib.mapM_at hm i i (by simp [hi])
      have h2 : (xs.map (·.1))[i]? = some b.1 := by simp [hb]
      rw [hxs, List.getElem?_map, List.getElem?_eq_getElem (by omega)] at h2
      have hb1 : b.1 = Lib.tabData k (zss.getD i []) := by
        simp only [Option.map_some, Option.some.injEq] at h2
        rw [← h2, List.getD_eq_getElem?_getD, List.getElem?_eq_getElem (by omega)]
        rfl
      obtain ⟨b1, b2⟩ := b
      simp only at hb1
      subst hb1
      have hc := Lib.cells_of_tab he1 he hce hce1 hf
      have hg := congrArg (·[j]?) hc
      simp only [List.getElem?_take, List.getElem?_drop, hj, if_true, List.getElem?_map] at hg
      rw [hg]
      have hlen : j < (zss.getD i []).length := by
        have := congrArg List.length hc
        simp only [List.length_take, List.length_drop, List.length_map] at this
        have hb' : (i + 1) * m ≤ n * m := Nat.mul_le_mul_right _ hi
        rw [Nat.add_mul, Nat.one_mul] at hb'
        omega
      rw [List.getElem?_eq_getElem hlen, List.getD_eq_getElem?_getD (l := zss.getD i []), List.getElem?_eq_getElem hlen]
      rfl
    · cases h

theorem gFirst : Tryd.prog.globalNamed "obol/blake.beginning" = some 2 := by kernel_rfl
theorem gRows : Tryd.prog.globalNamed "obol/blake.rows" = some 4 := by kernel_rfl
theorem gPlc : Tryd.prog.globalNamed "obol/blake.places" = some 3 := by kernel_rfl
theorem tFirst : (Tryd.prog.globals[2]?).map (·.type) = some 65 := by kernel_rfl
theorem tRows : (Tryd.prog.globals[4]?).map (·.type) = some 101 := by kernel_rfl
theorem tPlc : (Tryd.prog.globals[3]?).map (·.type) = some 99 := by kernel_rfl

theorem firstI_get : ∀ j : Fin 8, (firstI.map fun z => Value.int .u32 z)[j.val]? = some (.int .u32 ((Ob.first j.val : Nat) : Int)) := by
  intro j
  have h : ∀ j : Fin 8, firstI[j.val]? = some ((Ob.first j.val : Nat) : Int) := by decide +kernel
  rw [List.getElem?_map, h j]
  rfl
theorem rowsI_get : ∀ (i : Fin 10) (j : Fin 16), (rowsI.getD i.val []).getD j.val 0 = ((Ob.sig i.val j.val : Nat) : Int) := by decide +kernel
theorem plcI_get : ∀ (i : Fin 8) (j : Fin 4), (plcI.getD i.val []).getD j.val 0 = ((Ob.plc i.val j.val : Nat) : Int) := by decide +kernel

theorem tabs_of_laid {W : World} (h : laidMetH Tryd.prog laidTab W) : Tabs W := by
  rw [MakeChecks.laidMetH_plain _ _ _ (by kernel_rfl)] at h
  rw [laidTab_eq] at h
  obtain ⟨ps, ⟨g, t, cs, fuel, p, q, hg, ht, hvar, hd, ⟨g', t', cs', fuel', p', q', hg', ht', hvar', hd', ⟨g2, t2, cs2, fuel2, p2, q2, hg2, ht2, hvar2, hd2, _, _⟩, _⟩, _⟩, _⟩ := h
  obtain rfl := Option.some.inj (gFirst.symm.trans hg)
  obtain rfl := Option.some.inj (tFirst.symm.trans ht)
  obtain rfl := Option.some.inj (gRows.symm.trans hg')
  obtain rfl := Option.some.inj (tRows.symm.trans ht')
  obtain rfl := Option.some.inj (gPlc.symm.trans hg2)
  obtain rfl := Option.some.inj (tPlc.symm.trans ht2)
  have c1 := Lib.cells_of_tab Tryd.underlying65 Tryd.underlying64 (by kernel_rfl) (by kernel_rfl) hd
  have r1 : ∀ i j, i < 10 → j < 16 → W.cell? ⟨4, i * 16 + j, none⟩ = some (.int .u8 (Ob.sig i j : Nat)) := fun i j hi hj => by
    have := cells_of_tab2 Tryd.underlying101 Tryd.underlying100 Tryd.underlying5 (by kernel_rfl) (by kernel_rfl) (by kernel_rfl) hd' i j hi hj
    rw [rowsI_get ⟨i, hi⟩ ⟨j, hj⟩] at this
    rw [World.var?_cell hg' hvar' (i * 16 + j)]
    rw [← this, Array.getElem?_toList]
  have r2 : ∀ i j, i < 8 → j < 4 → W.cell? ⟨3, i * 4 + j, none⟩ = some (.int .u8 (Ob.plc i j : Nat)) := fun i j hi hj => by
    have := cells_of_tab2 Tryd.underlying99 Tryd.underlying98 Tryd.underlying5 (by kernel_rfl) (by kernel_rfl) (by kernel_rfl) hd2 i j hi hj
    rw [plcI_get ⟨i, hi⟩ ⟨j, hj⟩] at this
    rw [World.var?_cell hg2 hvar2 (i * 4 + j)]
    rw [← this, Array.getElem?_toList]
  have r0 : ∀ j, j < 8 → W.cell? ⟨2, j, none⟩ = some (.int .u32 (Ob.first j : Nat)) := fun j hj => by
    rw [World.var?_cell hg hvar j, ← firstI_get ⟨j, hj⟩, ← c1, Array.getElem?_toList]
  have l0 := World.block_lt_of_cell? _ _ (r0 0 (by decide))
  have l1 := World.block_lt_of_cell? _ _ (r1 0 0 (by decide) (by decide))
  have l2 := World.block_lt_of_cell? _ _ (r2 0 0 (by decide) (by decide))
  exact ⟨by simp at l0 l1 l2; omega, ⟨l0, r0⟩, r1, r2⟩

theorem door_met (os : Os) (args : Array Value) : laidMetH Tryd.prog laidTab ((World.doorLaid Tryd.prog 400 os).forCall (fun _ _ => 0) ⟨#[], args, []⟩).memory :=
  laidMetH_of_parts3 (fuel := 8) (laidMet_of_run' 8 (by kernel_rfl) (by kernel_rfl)) (by kernel_rfl) (by kernel_rfl)
end Go.Proofs.YtdhbkhmknnlmnaaDoor

namespace Go.Proofs.YtdhbkhmknnlmnaaDoor
open Go.ChangeShapes Go.WideShapes Go.ChangeAt Go.RowKit
set_option linter.unusedVariables false
set_option linter.unusedSimpArgs false

set_option maxRecDepth 100000 in
/-- A point that came in. -/
theorem open_Ed {H : Type} {enc : TypeId × Value → H} {W : World} {r : Reach} {b0 : Nat} {v : Value} {d : DataW H} {p : List MemPlace} (hv : Value.okWide Tryd.prog W r b0 25 v)
    (h : DataW.Trod enc Tryd.prog W 0 (fun _ => true) true 25 v d p) : ∃ (x y : Int), v = .agg #[.int .u64 x, .int .u64 y] ∧ (Lit.int .u64 x).wf = true ∧ (Lit.int .u64 y).wf = true := by
  obtain ⟨v1, v2, y1, y2, n, rfl, _, _, h1, h2⟩ := Go.Joins.open_agg2 Tryd.underlying25 (by kernel_rfl) (by kernel_rfl) hv h
  obtain ⟨a, e1, _, wa⟩ := DataW.trod_int Tryd.underlying22 h1
  obtain ⟨b, e2, _, wb⟩ := DataW.trod_int Tryd.underlying22 h2
  simp at e1 e2
  subst e1 e2
  exact ⟨a, b, rfl, wa, wb⟩
end Go.Proofs.YtdhbkhmknnlmnaaDoor

namespace Go.Proofs.YtdhbkhmknnlmnaaDoor
open Go.ChangeShapes Go.WideShapes Go.ChangeAt Go.RowKit
set_option linter.unusedVariables false
set_option linter.unusedSimpArgs false
set_option maxRecDepth 100000 in
/-- A signature that came in. -/
theorem open_Sig {H : Type} {enc : TypeId × Value → H} {W : World} {r : Reach} {b0 : Nat} {v : Value} {d : DataW H} {p : List MemPlace} (hv : Value.okWide Tryd.prog W r b0 36 v)
    (h : DataW.Trod enc Tryd.prog W 0 (fun _ => true) true 36 v d p) : ∃ (x y z : Int), v = .agg #[.int .u64 x, .int .u64 y, .int .u64 z] ∧ (Lit.int .u64 x).wf = true ∧ (Lit.int .u64 y).wf = true ∧ (Lit.int .u64 z).wf = true := by
  obtain ⟨cs, rfl, hsz⟩ := okWide_struct Tryd.underlying36 hv
  obtain ⟨c0, c1, c2, rfl⟩ := Go.Joins.array3 (hsz.trans (by kernel_rfl))
  obtain ⟨fuel, hf⟩ := h
  obtain ⟨y0, y1, n, hx, _, h0, h1⟩ := trod_struct2 Tryd.underlying36 hf
  have e0 : Tryd.prog.cellsOf 25 = 2 := by kernel_rfl
  have e1 : Tryd.prog.cellsOf 22 = 1 := by kernel_rfl
  simp only [e0, Value.cells, List.drop_zero, List.take_succ_cons, List.take_zero] at h0
  simp only [e1, Value.cells, List.drop_succ_cons, List.drop_zero, List.take_succ_cons, List.take_zero] at h1
  obtain ⟨y2, y3, n2, hx2, _, h2, h3⟩ := trod_struct2 Tryd.underlying25 h0
  simp only [e1, List.drop_zero, List.drop_succ_cons, List.take_succ_cons, List.take_zero] at h2 h3
  obtain ⟨a, ea, _, wa⟩ := DataW.trod_int Tryd.underlying22 h2
  obtain ⟨b, eb, _, wb⟩ := DataW.trod_int Tryd.underlying22 h3
  obtain ⟨c, ec, _, wc⟩ := DataW.trod_int Tryd.underlying22 h1
  simp at ea eb ec
  subst ea eb ec
  exact ⟨a, b, c, rfl, wa, wb, wc⟩
end Go.Proofs.YtdhbkhmknnlmnaaDoor
