/-
  Rows of words of 64 bits: read, joined, copied.
-/
import Derived.Test.YtgjpdamojfkpiabKit
import Derived.Test.YtgjpdamojfkpiabFrame2
import Derived.Deep.AppendSrc
import Derived.Deep.AppendLies
import Derived.Deep.DeepAppendRoom
import Derived.Laws.AppendOwn
import Derived.OwnWalk
namespace Go.Proofs.Ytgjpdamojfkpiab
open Go.RowKit Go.Proofs
set_option linter.unusedVariables false
set_option linter.unusedSimpArgs false

theorem add_none (b off i : Nat) : (⟨b, off, none⟩ : Addr).add i = ⟨b, off + i, none⟩ := by unfold Addr.add; split <;> simp_all
/-- n words, from a place on. -/
structure Wds (w : World) (b off n : Nat) (z : Nat → Nat) : Prop where
  lt : b < w.heap.size
  at_ : ∀ i, i < n → w.cell? ⟨b, off + i, none⟩ = some (.int .u64 (z i : Nat))
theorem Wds.below {w w1 : World} {B b off n : Nat} {z : Nat → Nat} (t : Wds w b off n z) (hb : Below B w w1) (h : b < B) : Wds w1 b off n z :=
  ⟨Nat.lt_of_lt_of_le t.lt hb.size, fun i hi => by rw [(bcell hb).1 b _ h]; exact t.at_ i hi⟩
theorem Wds.via {w w1 : World} {B b off n : Nat} {z : Nat → Nat} (hb : Below B w w1) (t : Wds w b off n z) (h : b < B) : Wds w1 b off n z := t.below hb h
theorem Wds.drew {w : World} {b off n : Nat} {z : Nat → Nat} (t : Wds w b off n z) : Wds w.drew b off n z := ⟨t.lt, t.at_⟩
theorem Wds.drewN {w : World} {b off n : Nat} {z : Nat → Nat} (t : Wds w b off n z) (k : Nat) : Wds (w.drewN k) b off n z := ⟨t.lt, t.at_⟩
theorem Wds.alloc {w : World} {b off n : Nat} {z : Nat → Nat} (t : Wds w b off n z) (o : Obj) : Wds (w.alloc o) b off n z := t.below ((Below.refl w.heap.size w).alloc (Nat.le_refl _) o) t.lt
theorem Wds.far {w : World} {b off n b' : Nat} {z : Nat → Nat} (t : Wds w b off n z) (h : b' ≠ b) (o : Nat) (v : Value) : Wds (w.setCell ⟨b', o, none⟩ v) b off n z :=
  ⟨by simp [t.lt], fun i hi => by rw [World.cell?_setCell_other _ _ _ _ (by simp [h]), t.at_ i hi]⟩
theorem Wds.less {w : World} {b off n m : Nat} {z : Nat → Nat} (t : Wds w b off n z) (h : m ≤ n) : Wds w b off m z := ⟨t.lt, fun i hi => t.at_ i (by omega)⟩
theorem Wds.more {w : World} {b off n : Nat} {z : Nat → Nat} (t : Wds w b off n z) (k m : Nat) (h : k + m ≤ n) : Wds w b (off + k) m (fun i => z (k + i)) :=
  ⟨t.lt, fun i hi => by rw [Nat.add_assoc]; exact t.at_ (k + i) (by omega)⟩
theorem Wds.congr {w : World} {b off n : Nat} {y z : Nat → Nat} (t : Wds w b off n y) (h : ∀ i, i < n → y i = z i) : Wds w b off n z := ⟨t.lt, fun i hi => by rw [← h i hi]; exact t.at_ i hi⟩
theorem Wds.one {w : World} {n : Nat} {t : TypeId} {b : Nat} (h : b = w.heap.size) : Wds (w.alloc (.cells #[.int .u64 (n : Nat)] t)) b 0 1 (fun _ => n) := by
  subst h
  exact ⟨by simp, fun i hi => by obtain rfl : i = 0 := by omega
                                 simp [go_sem]⟩

/-- A slice of n words that lies below block B, or has none. -/
def SrcW (B : Nat) (w : World) (a : Option Addr) (n : Nat) (z : Nat → Nat) : Prop := n = 0 ∨ ∃ b off, a = some ⟨b, off, none⟩ ∧ b < B ∧ Wds w b off n z
theorem SrcW.below {B : Nat} {w w1 : World} {a : Option Addr} {n : Nat} {z : Nat → Nat} (h : SrcW B w a n z) (hb : Below B w w1) : SrcW B w1 a n z := by
  rcases h with h | ⟨b, off, e, hl, h⟩
  · exact Or.inl h
  · exact Or.inr ⟨b, off, e, hl, h.below hb hl⟩
theorem SrcW.mono {B C : Nat} {w : World} {a : Option Addr} {n : Nat} {z : Nat → Nat} (h : SrcW B w a n z) (hc : B ≤ C) : SrcW C w a n z := by
  rcases h with h | ⟨b, off, e, hl, h⟩
  · exact Or.inl h
  · exact Or.inr ⟨b, off, e, by omega, h⟩
theorem SrcW.to {B : Nat} {w w1 : World} {a : Option Addr} {n : Nat} {z : Nat → Nat} (h : SrcW B w a n z) (hb : Below B w w1) (hB : B ≤ w.heap.size) : SrcW w1.heap.size w1 a n z := (h.below hb).mono (Nat.le_trans hB hb.size)
theorem SrcW.of {w : World} {b off n : Nat} {z : Nat → Nat} (h : Wds w b off n z) : SrcW w.heap.size w (some ⟨b, off, none⟩) n z := Or.inr ⟨b, off, rfl, h.lt, h⟩
theorem SrcW.nil (B : Nat) (w : World) (a : Option Addr) (z : Nat → Nat) : SrcW B w a 0 z := Or.inl rfl
theorem SrcW.less {B : Nat} {w : World} {a : Option Addr} {n m : Nat} {z : Nat → Nat} (h : SrcW B w a n z) (hm : m ≤ n) : SrcW B w a m z := by
  rcases h with h | ⟨b, off, e, hl, h⟩
  · exact Or.inl (by omega)
  · exact Or.inr ⟨b, off, e, hl, h.less hm⟩
theorem SrcW.congr {B : Nat} {w : World} {a : Option Addr} {n : Nat} {y z : Nat → Nat} (h : SrcW B w a n y) (e : ∀ i, i < n → y i = z i) : SrcW B w a n z := by
  rcases h with h | ⟨b, off, e', hl, h⟩
  · exact Or.inl h
  · exact Or.inr ⟨b, off, e', hl, h.congr e⟩

theorem wdInfo : ∃ i, Try.prog.info? 24 = some i ∧ i.size = 1 ∧ i.bytes = 8 ∧ i.zero = some (.int .u64 0) := by
  have h : (Try.prog.info? 24).map (fun i => (i.size, i.bytes, i.zero)) = some (1, 8, some (.int .u64 0)) := by kernel_rfl
  cases hi : Try.prog.info? 24 with
  | none => rw [hi] at h; cases h
  | some i =>
    rw [hi] at h
    simp only [Option.map_some, Option.some.injEq, Prod.mk.injEq] at h
    exact ⟨i, rfl, h.1, h.2.1, h.2.2⟩
/-- The values of words. -/
def wals (z : Nat → Nat) (n : Nat) : List Value := (List.range n).map fun i => .int .u64 (z i : Nat)
theorem wals_zero (z : Nat → Nat) : wals z 0 = [] := rfl
theorem wals_succ (z : Nat → Nat) (n : Nat) : wals z (n + 1) = wals z n ++ [.int .u64 (z n : Nat)] := by simp [wals, List.range_succ]
theorem wals_length (z : Nat → Nat) (n : Nat) : (wals z n).length = n := by simp [wals]
theorem wals_get (z : Nat → Nat) (n i : Nat) (h : i < n) : (wals z n)[i]? = some (.int .u64 (z i : Nat)) := by simp [wals, h]
theorem wals_one (z : Nat → Nat) (n : Nat) : ∀ u ∈ wals z n, u.oneCell' = true := by
  intro u hu
  simp only [wals, List.mem_map] at hu
  obtain ⟨i, _, rfl⟩ := hu
  rfl
theorem wals_congr (y z : Nat → Nat) (n : Nat) (h : ∀ i, i < n → y i = z i) : wals y n = wals z n := by
  induction n with
  | zero => rfl
  | succ n ih => rw [wals_succ, wals_succ, ih (fun i hi => h i (by omega)), h n (by omega)]
theorem wds_news {w : World} {b off n : Nat} {z : Nat → Nat} (h : Wds w b off n z) : ∀ j u, (wals z n)[j]? = some u → w.cell? ((⟨b, off, none⟩ : Addr).add j) = some u := by
  intro j u hu
  have hj : j < n := by rw [← wals_length z n]; exact (List.getElem?_eq_some_iff.1 hu).1
  rw [wals_get z n j hj] at hu
  cases hu
  rw [add_none]
  exact h.at_ j hj
theorem wds_of_row {w : World} {base n cap g : Nat} {z : Nat → Nat} (h : w.ownsRow base 24 1 (.slice (some ⟨g, 0, none⟩) n cap) n (wals z n)) : Wds w g 0 n z := by
  refine ⟨(h.lt g rfl).2, fun i hi => ?_⟩
  have := h.cells (g := g) rfl i _ (wals_get z n i hi)
  rw [add_none] at this
  exact this

/-- A slice of words that came in. -/
theorem srcW_of_isRow {w : World} {a : Option Addr} {len cap : Nat} {zs : List Int} (h : IsRow .u64 w a len cap zs) :
    ∃ z : Nat → Nat, len ≤ cap ∧ cap ≤ maxLen ∧ (∀ i, z i < 18446744073709551616) ∧ SrcW w.heap.size w a len z ∧ (a = none → len = 0 ∧ cap = 0) ∧ ∀ i, i < len → (z i : Int) = zs.getD i 0 := by
  rcases h with ⟨rfl, rfl, rfl, rfl⟩ | ⟨x, rfl, h1, h2, h3, hcell, hwz⟩
  · exact ⟨fun _ => 0, by omega, by omega, fun i => (by show 0 < _; decide), Or.inl rfl, fun _ => ⟨rfl, rfl⟩, fun i hi => by omega⟩
  · have hb : ∀ i, 0 ≤ zs.getD i 0 ∧ zs.getD i 0 < 18446744073709551616 := fun i => by
      rcases Nat.lt_or_ge i zs.length with hi | hi
      · have hm : zs.getD i 0 ∈ zs := by simp [List.getD, List.getElem?_eq_getElem hi]
        have := bounds_u64 (hwz _ hm)
        omega
      · simp [List.getD, List.getElem?_eq_none hi]
    refine ⟨fun i => (zs.getD i 0).toNat, h1, h2, fun i => (by have := hb i; show (zs.getD i 0).toNat < _; omega), ?_, (fun h => by cases h), fun i hi => (by have := hb i; show ((zs.getD i 0).toNat : Int) = _; omega)⟩
    by_cases hl : len = 0
    · exact Or.inl hl
    · obtain ⟨b, off, spot⟩ := x
      have hc := hcell 0 (by omega)
      have hspot : spot = none := by simpa [Addr.add] using World.cell?_spot hc
      subst hspot
      have hbl : b < w.heap.size := by have := World.block_lt_of_cell? _ _ hc; simpa [Addr.add] using this
      refine Or.inr ⟨b, off, rfl, hbl, hbl, fun i hi => ?_⟩
      have h := hcell i (by omega)
      rw [add_none] at h
      rw [h]
      exact congrArg (fun n => some (Value.int .u64 n)) (by have := hb i; show _ = ((zs.getD i 0).toNat : Int); omega)

/-- n words, others behind them. -/
def joinW (z : Nat → Nat) (n : Nat) (u : Nat → Nat) (j : Nat) : Nat := if j < n then z j else u (j - n)
theorem wals_joinW (z u : Nat → Nat) (n : Nat) : ∀ m, wals z n ++ wals u m = wals (joinW z n u) (n + m)
  | 0 => by rw [wals_zero, List.append_nil]; exact wals_congr _ _ _ fun i hi => by unfold joinW; rw [if_pos hi]
  | m + 1 => by
    rw [wals_succ, ← List.append_assoc, wals_joinW z u n m, ← Nat.add_assoc, wals_succ]
    have e : joinW z n u (n + m) = u m := by unfold joinW; rw [if_neg (by omega), Nat.add_sub_cancel_left]
    rw [e]
theorem srcOf {B : Nat} {w : World} {ad : Option Addr} {m c : Nat} {u : Nat → Nat} (h : SrcW B w ad m u) : ∃ i, Try.prog.info? 24 = some i ∧ i.size = 1 ∧ i.bytes = 8 ∧ i.zero = some (.int .u64 0) ∧ Go.Src Try.prog i.size 22 (.slice ad m c) m (wals u m) w := by
  obtain ⟨i0, hi, hz1, hz2, hz0⟩ := wdInfo
  refine ⟨i0, hi, hz1, hz2, hz0, ?_⟩
  rcases h with rfl | ⟨b, off, rfl, hl, h⟩
  · cases ad with
    | none => exact Go.Src.ofNil w Try.underlying22 c
    | some a => exact Go.Src.ofSlice w Try.underlying22 a 0 c [] (by simp) (fun j u h => by simp at h) (fun u h => by cases h)
  · exact Go.Src.ofSlice w Try.underlying22 _ m c _ (by rw [hz1]; simp [wals]) (wds_news h) (wals_one u m)

/-- append of words behind words that fill their room (or of none). -/
theorem run_joinW (w : World) (ty : TypeId) (g n : Nat) (z : Nat → Nat) (hz : Wds w g 0 n z) (B : Nat) (ad : Option Addr) (m c : Nat) (u : Nat → Nat) (hu : SrcW B w ad m u) (hn : n ≤ 1000000) (hm : m ≤ 1000000) :
    ∃ g' cap' w', (Builtin.append_ #[22, 22] ty #[.slice (some ⟨g, 0, none⟩) n n, .slice ad m c]).run Try.prog w = .ok (.slice (some ⟨g', 0, none⟩) (n + m) cap') w' ∧ n + m ≤ cap' ∧ Wds w' g' 0 (n + m) (joinW z n u) ∧ (g' = g ∨ g' = w.heap.size) ∧ Below w.heap.size w w' := by
  obtain ⟨i0, hi, hz1, hz2, hz0, src⟩ := srcOf (c := c) hu
  by_cases h0 : m = 0
  · subst h0
    have hr := run_append_room_src w 22 22 ty 24 i0 Try.underlying22 hi g 0 n n _ 0 _ src (by omega) (fun j h => by simp [wals] at h) (fun j h => by simp [wals] at h)
    exact ⟨g, n, w, hr, by omega, hz.congr fun i h => by unfold joinW; rw [if_pos h], Or.inl rfl, Below.refl _ _⟩
  · have hold := run_firstCells_some (P := Try.prog) w.drew i0.size n ⟨g, 0, none⟩ n n (wals z n) (by rw [hz1]; simp [wals]) (fun j v hv => wds_news hz j v hv)
    have hr := run_append_grow_src w 22 22 ty 24 i0 _ Try.underlying22 hi hz0 (some ⟨g, 0, none⟩) n n (wals z n) hold _ m _ src (by omega) (by omega) (by rw [hz2]; exact growslice_fits (by omega) (by omega))
    rw [wals_joinW] at hr
    have hge := grownCap_ge w (n + m) n 24
    generalize grownCap w (n + m) n 24 = C at hr hge
    refine ⟨w.heap.size, C, _, hr, hge, ⟨by simp, fun j hj => ?_⟩, Or.inr rfl, (((Below.refl w.heap.size w).drew).alloc (Nat.le_refl _) _)⟩
    rw [Nat.zero_add, World.cell?_alloc_at _ _ _ _ (by simp), Array.getElem?_append_left (by simp [wals]; omega), List.getElem?_toArray]
    exact wals_get _ _ j hj
theorem wpList_joinW {ops : Array Oper} {rest : List Oper} {o : Oper} {a : Act} {w : World} {Q : Exit → Act → World → Prop} (hgd : o.guard = none) (s x : Operand)
    (ho : o.op = .call { callee := .builtin .append, args := #[s, x], argTypes := #[22, 22] }) (g n : Nat) (z : Nat → Nat) (hz : Wds w g 0 n z) (B : Nat) (ad : Option Addr) (m c : Nat) (u : Nat → Nat) (hu : SrcW B w ad m u) (hn : n ≤ 1000000) (hm : m ≤ 1000000)
    (hs : a.eval s = .slice (some ⟨g, 0, none⟩) n n) (hx : a.eval x = .slice ad m c)
    (h : ∀ g' cap' w', n + m ≤ cap' → Wds w' g' 0 (n + m) (joinW z n u) → (g' = g ∨ g' = w.heap.size) → Below w.heap.size w w' → wpList Try.prog ops Q rest (a.put o.dst (.slice (some ⟨g', 0, none⟩) (n + m) cap')) w') : wpList Try.prog ops Q (o :: rest) a w := by
  refine wpList_plain hgd fun K hK => ?_
  obtain ⟨g', cap', w', hr, h1, h2, h3, h4⟩ := run_joinW w o.type g n z hz B ad m c u hu hn hm
  unfold Oper.wp execOp
  simp only [ho, resolve, invoke, builtin, Sem.run_bind, Sem.run_pure, Result.andThen_ok, List.map_toArray, List.map_cons, List.map_nil, hs, hx, hr]
  exact hK _ _ (h g' cap' w' h1 h2 h3 h4)
/-- append onto an empty row: a copy of one's own. -/
theorem wpList_copyW {ops : Array Oper} {rest : List Oper} {o : Oper} {a : Act} {w : World} {Q : Exit → Act → World → Prop} (hgd : o.guard = none) (s x : Operand)
    (ho : o.op = .call { callee := .builtin .append, args := #[s, x], argTypes := #[22, 22] }) (base b0 : Nat) (hs : a.eval s = .slice (some ⟨b0, 0, none⟩) 0 0)
    (hown0 : w.ownsRow base 24 1 (.slice (some ⟨b0, 0, none⟩) 0 0) 0 []) (hbase : base ≤ w.heap.size) (B : Nat) (ad : Option Addr) (n c : Nat) (z : Nat → Nat) (hx : a.eval x = .slice ad n c) (hS : SrcW B w ad n z) (hn : n ≤ 1000000)
    (h : ∀ g cap w', w'.ownsRow base 24 1 (.slice (some ⟨g, 0, none⟩) n cap) n (wals z n) → Below base w w' → wpList Try.prog ops Q rest (a.put o.dst (.slice (some ⟨g, 0, none⟩) n cap)) w') : wpList Try.prog ops Q (o :: rest) a w := by
  obtain ⟨i0, hi, hz1, hz2, hz0, src⟩ := srcOf (c := c) hS
  by_cases h0 : n = 0
  · subst h0
    have hr := run_append_room_src w 22 22 o.type 24 i0 Try.underlying22 hi b0 0 0 0 (.slice ad 0 c) 0 _ src (by omega) (fun j h => by simp [wals] at h) (fun j h => by simp [wals] at h)
    refine wpList_plain hgd fun K hK => ?_
    unfold Oper.wp execOp
    simp only [ho, resolve, invoke, builtin, Sem.run_bind, Sem.run_pure, Result.andThen_ok, List.map_toArray, List.map_cons, List.map_nil, hs, hx, hr]
    exact hK _ _ (h b0 0 w hown0 (Below.refl _ _))
  · rcases hS with h1 | ⟨b, off, rfl, hl, hB⟩
    · exact absurd h1 h0
    refine wpList_append_lies _ hgd s x 22 ho base 24 i0 _ 1 8 Try.underlying22 hi hz0 hz1 hz2 rfl (by decide) _ 0 [] hs hown0 ⟨b, off, none⟩ n c (wals z n) hx (by simp [wals]) (wds_news hB) (wals_one z n) (by omega) (by unfold maxLen; omega) (by omega) hbase w.heap.size rfl ?_
    intro g cap w' hown hg _ _
    rw [Nat.zero_add, List.nil_append] at hown
    rw [Nat.zero_add]
    exact h g cap w' hown ((Below.refl base w).grown hg hbase (fun k hk => (hown0.lt k hk).1))
end Go.Proofs.Ytgjpdamojfkpiab
