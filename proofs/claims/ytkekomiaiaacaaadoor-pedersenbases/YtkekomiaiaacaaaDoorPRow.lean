/-
  Rows of bytes that grow byte by byte, whatever mark they bear.
-/
import Derived.Test.YtkekomiaiaacaaaDoorCopyB
import Derived.Laws.IdiomStrings
namespace Go.Proofs.YtkekomiaiaacaaaDoor
open Go.RowKit Go.Proofs
set_option linter.unusedVariables false
set_option linter.unusedSimpArgs false

/-- A row of the call's own: its first len cells are the bytes z, the others up to cap may be written. -/
structure PRow (w : World) (base g len cap : Nat) (z : Nat → Nat) : Prop where
  lb : base ≤ g
  lt : g < w.heap.size
  le : len ≤ cap
  c : ∀ j, j < len → w.cell? ⟨g, j, none⟩ = some (.int .u8 (z j : Nat))
  room : ∀ j, len ≤ j → j < cap → (w.cell? ⟨g, j, none⟩).isSome = true ∧ w.frozen? ⟨g, j, none⟩ = false
theorem PRow.below {w w1 : World} {B base g len cap : Nat} {z : Nat → Nat} (t : PRow w base g len cap z) (hb : Below B w w1) (h : g < B) : PRow w1 base g len cap z :=
  ⟨t.lb, Nat.lt_of_lt_of_le t.lt hb.size, t.le, fun j hj => by rw [(bcell hb).1 g j h]; exact t.c j hj, fun j h1 h2 => by rw [(bcell hb).1 g j h, (bcell hb).2 g j h]; exact t.room j h1 h2⟩
theorem PRow.bys {w : World} {base g len cap : Nat} {z : Nat → Nat} (t : PRow w base g len cap z) : Bys w g 0 len z := ⟨t.lt, fun i hi => by rw [Nat.zero_add]; exact t.c i hi⟩
theorem PRow.of_row {w : World} {base n cap g : Nat} {z : Nat → Nat} (h : w.ownsRow base 5 1 (.slice (some ⟨g, 0, none⟩) n cap) n (vals z n)) : PRow w base g n cap z := by
  have hb := bys_of_row h
  have hf := free_of_row h
  refine ⟨(h.lt g rfl).1, hb.lt, (cap_of_row h).1, fun j hj => by have := hb.at_ j hj; rwa [Nat.zero_add] at this, fun j h1 h2 => ⟨?_, hf j⟩⟩
  rcases h.2 with ⟨h0, _⟩ | ⟨g', cap', cur, hv, _, hg, _, _, hs, _⟩
  · cases h0
  · cases hv
    have : w.cell? ⟨g, j, none⟩ = cur[j]? := by simp [World.cell?, hg]
    rw [this, Array.getElem?_eq_getElem (by omega)]
    rfl

/-- A string's bytes. -/
theorem prow_str (w : World) (s : ByteArray) : ∃ cap w', (convert 9 46 (.string s)).run Tryd.prog w = .ok (.slice (some ⟨w.heap.size, 0, none⟩) s.size cap) w' ∧ PRow w' w.heap.size w.heap.size s.size cap (sby s) ∧ Below w.heap.size w w' := by
  have h := run_bytes_of_string (P := Tryd.prog) w 9 46 5 s Tryd.underlying9 Tryd.underlying46 Tryd.underlying5
  have hge := grownCap_ge w s.size 0 5
  generalize grownCap w s.size 0 5 = cap at h hge
  refine ⟨cap, _, h, ⟨Nat.le_refl _, by simp, hge, fun j hj => ?_, fun j h1 h2 => ?_⟩, ((Below.refl w.heap.size w).drew).alloc (by simp) _⟩
  · have hc : (w.drew.alloc (.cells (bytesRow s cap) 5 ((bytesRow s cap).size, (bytesRow s cap).size + 1))).cell? ⟨w.heap.size, j, none⟩ = (bytesRow s cap)[j]? := by
      have hs : w.drew.heap.size = w.heap.size := World.size_drew w
      simp only [World.cell?, World.alloc]
      rw [← hs, Array.getElem?_push_size]
      rfl
    rw [hc]
    have hj' : j < s.data.size := hj
    unfold bytesRow sby
    rw [Array.getElem?_append_left (by simpa using hj'), Array.getElem?_map, ← Array.getElem?_toList, List.getElem?_eq_getElem (by simpa using hj')]
    rfl
  · have hc : (w.drew.alloc (.cells (bytesRow s cap) 5 ((bytesRow s cap).size, (bytesRow s cap).size + 1))).cell? ⟨w.heap.size, j, none⟩ = (bytesRow s cap)[j]? := by
      have hs : w.drew.heap.size = w.heap.size := World.size_drew w
      simp only [World.cell?, World.alloc]
      rw [← hs, Array.getElem?_push_size]
      rfl
    have hsz : (bytesRow s cap).size = cap := by
      have : s.data.size = s.size := rfl
      unfold bytesRow
      rw [Array.size_append, Array.size_map, Array.size_replicate]
      omega
    refine ⟨by rw [hc, Array.getElem?_eq_getElem (by omega)]; rfl, ?_⟩
    have hs : w.drew.heap.size = w.heap.size := World.size_drew w
    simp only [World.frozen?, World.alloc]
    rw [← hs, Array.getElem?_push_size]
    simp [hsz]
    omega
theorem nextcap_one (n : Nat) (hn : n ≤ 1000000) : Builtin.nextslicecap (n + 1) n * 1 ≤ 281474976710656 := growslice_fits (by omega) (by omega)
/-- One byte more. -/
theorem prow_append {w : World} {base g len cap : Nat} {z : Nat → Nat} (t : PRow w base g len cap z) (hbase : base ≤ w.heap.size) (hn : len ≤ 1000000) (b1 c1 x : Nat) (hx : w.cell? ⟨b1, 0, none⟩ = some (.int .u8 (x : Nat))) (ty : TypeId) :
    ∃ g' cap' w', (Builtin.append_ #[46, 46] ty #[.slice (some ⟨g, 0, none⟩) len cap, .slice (some ⟨b1, 0, none⟩) 1 c1]).run Tryd.prog w = .ok (.slice (some ⟨g', 0, none⟩) (len + 1) cap') w' ∧ PRow w' base g' (len + 1) cap' (Ob.upd z len x) ∧ Below base w w' := by
  obtain ⟨i0, hi, hz1, hz2, hz0⟩ := byteInfo
  have src : Go.Src Tryd.prog i0.size 46 (.slice (some ⟨b1, 0, none⟩) 1 c1) 1 [.int .u8 (x : Nat)] w :=
    Go.Src.ofSlice w Tryd.underlying46 _ 1 c1 _ (by rw [hz1]; rfl) (fun j u h => by
      cases j with
      | zero => simp at h; subst h; rw [Addr.add_mid]; exact hx
      | succ j => simp at h) (fun u hu => by simp at hu; subst hu; rfl)
  by_cases hc : len < cap
  · have h := run_append_room_src w 46 46 ty 5 i0 Tryd.underlying46 hi g 0 len cap _ 1 _ src (by omega)
      (fun j hj => by
        have : j = 0 := by simp at hj; omega
        subst this
        rw [hz1, Nat.zero_add, Nat.mul_one, Nat.add_zero]
        exact (t.room len (Nat.le_refl _) hc).1)
      (fun j hj => by
        have : j = 0 := by simp at hj; omega
        subst this
        rw [hz1, Nat.zero_add, Nat.mul_one, Nat.add_zero]
        exact (t.room len (Nat.le_refl _) hc).2)
    rw [hz1, Nat.zero_add, Nat.mul_one] at h
    refine ⟨g, cap, _, h, ⟨t.lb, by simp [World.setCells, t.lt], by omega, fun j hj => ?_, fun j h1 h2 => ?_⟩, ?_⟩
    · by_cases e : j = len
      · subst e
        rw [Ob.upd_same]
        obtain ⟨u, hu⟩ := Option.isSome_iff_exists.1 (t.room j (Nat.le_refl _) hc).1
        exact World.cell?_setCell_same _ _ _ hu
      · rw [Ob.upd_ne _ _ e]
        show (w.setCell ⟨g, len, none⟩ _).cell? _ = _
        rw [World.cell?_setCell_other _ _ _ _ (by first | (simp; done) | (simp; omega))]
        exact t.c j (by omega)
    · show ((w.setCell ⟨g, len, none⟩ _).cell? _).isSome = true ∧ (w.setCell ⟨g, len, none⟩ _).frozen? _ = false
      rw [World.cell?_setCell_other _ _ _ _ (by first | (simp; done) | (simp; omega)), World.frozen?_setCell]
      exact t.room j (by omega) h2
    · exact (Below.refl base w).setCell t.lb _
  · have e : cap = len := by have := t.le; omega
    subst e
    have hold := run_firstCells_some (P := Tryd.prog) w.drew i0.size cap ⟨g, 0, none⟩ cap cap (vals z cap) (by rw [hz1]; simp [vals]) (fun j u h => by
      have := bys_news t.bys j u h
      exact this)
    have h := run_append_grow_src w 46 46 ty 5 i0 _ Tryd.underlying46 hi hz0 (some ⟨g, 0, none⟩) cap cap (vals z cap) hold _ 1 _ src (by omega) (by omega) (by rw [hz2]; exact nextcap_one cap hn)
    have hge := grownCap_ge w (cap + 1) cap 5
    generalize grownCap w (cap + 1) cap 5 = C at h hge
    have hsz : ((vals z cap ++ [Value.int .u8 (x : Nat)]).toArray ++ Builtin.zeroCells (Value.int IntKind.u8 0).cells (C - (cap + 1))).size = C := by
      rw [Array.size_append, size_zeroCells]
      simp [vals, Value.cells]
      omega
    have hcell : ∀ j, (w.drew.alloc (.cells ((vals z cap ++ [Value.int .u8 (x : Nat)]).toArray ++ Builtin.zeroCells (Value.int IntKind.u8 0).cells (C - (cap + 1))) 5)).cell? ⟨w.heap.size, j, none⟩ = ((vals z cap ++ [Value.int .u8 (x : Nat)]).toArray ++ Builtin.zeroCells (Value.int IntKind.u8 0).cells (C - (cap + 1)))[j]? := fun j =>
      World.cell?_alloc_at _ _ _ _ (by simp)
    refine ⟨w.heap.size, C, _, h, ⟨hbase, by simp, hge, fun j hj => ?_, fun j h1 h2 => ?_⟩, ((Below.refl base w).drew).alloc (by simpa using hbase) _⟩
    · rw [hcell, Array.getElem?_append_left (by simp [vals]; omega), List.getElem?_toArray]
      by_cases e : j = cap
      · subst e
        rw [Ob.upd_same, List.getElem?_append_right (by simp [vals])]
        simp [vals]
      · rw [Ob.upd_ne _ _ e, List.getElem?_append_left (by simp [vals]; omega)]
        exact vals_get z cap j (by omega)
    · refine ⟨by rw [hcell, Array.getElem?_eq_getElem (by omega)]; rfl, ?_⟩
      exact World.frozen?_alloc_at _ _ _ _ (by simp)
theorem wpList_prow {ops : Array Oper} {rest : List Oper} {o : Oper} {a : Act} {w : World} {Q : Exit → Act → World → Prop} (hgd : o.guard = none) (s x : Operand)
    (ho : o.op = .call { callee := .builtin .append, args := #[s, x], argTypes := #[46, 46] }) {base g len cap : Nat} {z : Nat → Nat} (t : PRow w base g len cap z) (hbase : base ≤ w.heap.size) (hn : len ≤ 1000000) (b1 c1 v : Nat)
    (hx : w.cell? ⟨b1, 0, none⟩ = some (.int .u8 (v : Nat))) (hs : a.eval s = .slice (some ⟨g, 0, none⟩) len cap) (hx' : a.eval x = .slice (some ⟨b1, 0, none⟩) 1 c1)
    (h : ∀ g' cap' w', PRow w' base g' (len + 1) cap' (Ob.upd z len v) → Below base w w' → wpList Tryd.prog ops Q rest (a.put o.dst (.slice (some ⟨g', 0, none⟩) (len + 1) cap')) w') : wpList Tryd.prog ops Q (o :: rest) a w := by
  refine wpList_plain hgd fun K hK => ?_
  obtain ⟨g', cap', w', hr, h1, h2⟩ := prow_append t hbase hn b1 c1 v hx o.type
  unfold Oper.wp execOp
  simp only [ho, resolve, invoke, builtin, Sem.run_bind, Sem.run_pure, Result.andThen_ok, List.map_toArray, List.map_cons, List.map_nil, hs, hx', hr]
  exact hK _ _ (h g' cap' w' h1 h2)
end Go.Proofs.YtkekomiaiaacaaaDoor
