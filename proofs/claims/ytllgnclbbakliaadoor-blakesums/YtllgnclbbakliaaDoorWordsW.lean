/-
  The walks of bytes as numbers: package words' Number, and the document's own.
-/
import Derived.Test.YtllgnclbbakliaaDoorKit
import Derived.Test.YtllgnclbbakliaaDoorWords
import Derived.Laws.BytesArg
import Derived.OwnWalk
import Derived.WalkSpells
import Derived.Deep.DeepAppendRoom
namespace Go.Proofs.YtllgnclbbakliaaDoor
open Go.RowKit Go.Proofs
set_option linter.unusedVariables false
set_option linter.unusedSimpArgs false

/-- n bytes, from a place on. -/
structure Bys (w : World) (b off n : Nat) (z : Nat → Nat) : Prop where
  lt : b < w.heap.size
  at_ : ∀ i, i < n → w.cell? ⟨b, off + i, none⟩ = some (.int .u8 (z i : Nat))
theorem Bys.below {w w1 : World} {B b off n : Nat} {z : Nat → Nat} (t : Bys w b off n z) (hb : Below B w w1) (h : b < B) : Bys w1 b off n z :=
  ⟨Nat.lt_of_lt_of_le t.lt hb.size, fun i hi => by rw [(bcell hb).1 b _ h]; exact t.at_ i hi⟩
theorem Bys.via {w w1 : World} {B b off n : Nat} {z : Nat → Nat} (hb : Below B w w1) (t : Bys w b off n z) (h : b < B) : Bys w1 b off n z := t.below hb h
theorem Bys.drew {w : World} {b off n : Nat} {z : Nat → Nat} (t : Bys w b off n z) : Bys w.drew b off n z := ⟨t.lt, t.at_⟩
theorem Bys.drewN {w : World} {b off n : Nat} {z : Nat → Nat} (t : Bys w b off n z) (k : Nat) : Bys (w.drewN k) b off n z := ⟨t.lt, t.at_⟩
theorem Bys.alloc {w : World} {b off n : Nat} {z : Nat → Nat} (t : Bys w b off n z) (o : Obj) : Bys (w.alloc o) b off n z := t.below ((Below.refl w.heap.size w).alloc (Nat.le_refl _) o) t.lt
theorem Bys.far {w : World} {b off n b' : Nat} {z : Nat → Nat} (t : Bys w b off n z) (h : b' ≠ b) (o : Nat) (v : Value) : Bys (w.setCell ⟨b', o, none⟩ v) b off n z :=
  ⟨by simp [t.lt], fun i hi => by rw [World.cell?_setCell_other _ _ _ _ (by simp [h]), t.at_ i hi]⟩
theorem Bys.less {w : World} {b off n m : Nat} {z : Nat → Nat} (t : Bys w b off n z) (h : m ≤ n) : Bys w b off m z := ⟨t.lt, fun i hi => t.at_ i (by omega)⟩
theorem Bys.more {w : World} {b off n : Nat} {z : Nat → Nat} (t : Bys w b off n z) (k m : Nat) (h : k + m ≤ n) : Bys w b (off + k) m (fun i => z (k + i)) :=
  ⟨t.lt, fun i hi => by rw [Nat.add_assoc]; exact t.at_ (k + i) (by omega)⟩


theorem or_byte (n x : Nat) (hn : n < 72057594037927936) (hx : x < 256) : bits .or .u64 ((n : Int) * 256) (x : Int) = ((256 * n + x : Nat) : Int) := by
  have h := bits_or_u64_nat (256 * n) x (by omega) (by omega)
  have e : 256 * n ||| x = 256 * n + x := (Nat.two_pow_add_eq_or_of_lt (i := 8) (show x < 2 ^ 8 from hx) n).symm
  rw [e] at h
  have e2 : ((256 * n : Nat) : Int) = (n : Int) * 256 := by omega
  rw [e2] at h
  exact h


theorem byteInfo : ∃ i, Tryd.prog.info? 5 = some i ∧ i.size = 1 ∧ i.bytes = 1 ∧ i.zero = some (.int .u8 0) := by
  have h : (Tryd.prog.info? 5).map (fun i => (i.size, i.bytes, i.zero)) = some (1, 1, some (.int .u8 0)) := by kernel_rfl
  cases hi : Tryd.prog.info? 5 with
  | none => rw [hi] at h; cases h
  | some i =>
    rw [hi] at h
    simp only [Option.map_some, Option.some.injEq, Prod.mk.injEq] at h
    exact ⟨i, rfl, h.1, h.2.1, h.2.2⟩

/-- The values of bytes. -/
def vals (z : Nat → Nat) (n : Nat) : List Value := (List.range n).map fun i => .int .u8 (z i : Nat)
theorem vals_zero (z : Nat → Nat) : vals z 0 = [] := rfl
theorem vals_succ (z : Nat → Nat) (n : Nat) : vals z (n + 1) = vals z n ++ [.int .u8 (z n : Nat)] := by simp [vals, List.range_succ]
theorem vals_get (z : Nat → Nat) (n i : Nat) (h : i < n) : (vals z n)[i]? = some (.int .u8 (z i : Nat)) := by simp [vals, h]

/-- A row of the call's own, as bytes. -/
theorem bys_of_row {w : World} {base n cap g : Nat} {z : Nat → Nat} (h : w.ownsRow base 5 1 (.slice (some ⟨g, 0, none⟩) n cap) n (vals z n)) : Bys w g 0 n z := by
  refine ⟨(h.lt g rfl).2, fun i hi => ?_⟩
  have := h.cells (g := g) rfl i _ (vals_get z n i hi)
  have hadd : (⟨g, 0, none⟩ : Addr).add i = ⟨g, 0 + i, none⟩ := by unfold Addr.add; split <;> simp_all
  rw [hadd] at this
  exact this
theorem free_of_row {w : World} {base n cap g : Nat} {xs : List Value} (h : w.ownsRow base 5 1 (.slice (some ⟨g, 0, none⟩) n cap) n xs) (o : Nat) : w.frozen? ⟨g, o, none⟩ = false := by
  rcases h.2 with ⟨h0, _⟩ | ⟨g', cap', cur, hv, _, hg, _⟩
  · cases h0
  · cases hv
    simp [World.frozen?, hg]

/-- Bytes that lie in memory, as the cells that an append takes. -/
theorem bys_news {w : World} {b off n : Nat} {z : Nat → Nat} (h : Bys w b off n z) : ∀ j u, (vals z n)[j]? = some u → w.cell? ((⟨b, off, none⟩ : Addr).add j) = some u := by
  intro j u hu
  have hj : j < n := by
    rcases Nat.lt_or_ge j n with h1 | h1
    · exact h1
    · have : (vals z n)[j]? = none := List.getElem?_eq_none (by simp [vals]; exact h1)
      rw [this] at hu
      cases hu
  rw [vals_get z n j hj] at hu
  cases hu
  have hadd : (⟨b, off, none⟩ : Addr).add j = ⟨b, off + j, none⟩ := by unfold Addr.add; split <;> simp_all
  rw [hadd]
  exact h.at_ j hj
theorem vals_one (z : Nat → Nat) (n : Nat) : ∀ u ∈ vals z n, u.oneCell' = true := by
  intro u hu
  simp only [vals, List.mem_map] at hu
  obtain ⟨i, _, rfl⟩ := hu
  rfl



/-- The numbers of bytes, as a list. -/
def nums (z : Nat → Nat) (n : Nat) : List Int := (List.range n).map fun i => (z i : Int)
/-- A slice of bytes, told as a string. -/
theorem bys_str (b off n cap : Nat) (z : Nat → Nat) (w : World) (h : Bys w b off n z) : (convert 27 9 (.slice (some ⟨b, off, none⟩) n cap)).run Tryd.prog w = .ok (.string (strOfNums (nums z n))) w := by
  refine run_convert_bytes_arg w 27 5 Tryd.underlying27 Tryd.underlying5 b off n cap (nums z n) (by simp [nums]) (fun i hi => ?_) 9 Tryd.underlying9
  rw [h.at_ i hi]
  simp [nums, hi]
theorem nums_add (z : Nat → Nat) (m n : Nat) : nums z (m + n) = nums z m ++ nums (fun i => z (m + i)) n := by
  simp [nums, List.range_add]
theorem nums_congr (y z : Nat → Nat) (n : Nat) (h : ∀ i, i < n → y i = z i) : nums y n = nums z n := by
  simp only [nums]
  refine List.map_congr_left fun i hi => ?_
  rw [h i (List.mem_range.mp hi)]
theorem strOfNums_append (x y : List Int) : strOfNums x ++ strOfNums y = strOfNums (x ++ y) := by
  apply ByteArray.ext
  simp [strOfNums, ByteArray.data_append]

/-- n bytes of the call's own, that may be written. -/
structure Wby (w : World) (g n : Nat) : Prop where
  at_ : ∀ j, j < n → ∃ v : Nat, v < 256 ∧ w.cell? ⟨g, j, none⟩ = some (.int .u8 v)
  free : ∀ o, w.frozen? ⟨g, o, none⟩ = false
  lt : g < w.heap.size
theorem Wby.of_bys {w : World} {g n : Nat} {z : Nat → Nat} (hz : ∀ i, z i < 256) (h : Bys w g 0 n z) (f : ∀ o, w.frozen? ⟨g, o, none⟩ = false) : Wby w g n :=
  ⟨fun j hj => ⟨z j, hz j, by have := h.at_ j hj; rw [Nat.zero_add] at this; exact this⟩, f, h.lt⟩
theorem Wby.set {w : World} {g n k : Nat} (h : Wby w g n) (v : Nat) (hv : v < 256) (hk : k < n) : Wby (w.setCell ⟨g, k, none⟩ (.int .u8 v)) g n := by
  refine ⟨fun j hj => ?_, fun o => by simp [h.free o], by simp [h.lt]⟩
  by_cases e : j = k
  · subst e
    obtain ⟨u, _, hc⟩ := h.at_ j hj
    exact ⟨v, hv, World.cell?_setCell_same _ _ _ hc⟩
  · obtain ⟨u, hu, hc⟩ := h.at_ j hj
    exact ⟨u, hu, by rw [World.cell?_setCell_other _ _ _ _ (fun h => e (by injection h with _ h2; exact h2.symm)), hc]⟩
theorem Wby.below {w w1 : World} {B g n : Nat} (t : Wby w g n) (hb : Below B w w1) (h : g < B) : Wby w1 g n :=
  ⟨fun j hj => by obtain ⟨v, hv, hc⟩ := t.at_ j hj; exact ⟨v, hv, by rw [(bcell hb).1 g _ h]; exact hc⟩, fun o => by rw [(bcell hb).2 g o h]; exact t.free o, Nat.lt_of_lt_of_le t.lt hb.size⟩
theorem wrap_succ (v : Nat) : IntKind.u8.wrap ((v : Int) + 1) = (((v + 1) % 256 : Nat) : Int) := by rw [IntKind.wrap_u8]; omega
/-- A row of one's own is kept by calls that turn nothing that was there. -/
theorem own_below {w w1 : World} {B base n size : Nat} {e : TypeId} {v : Value} {xs : List Value} (h : w.ownsRow base e size v n xs) (hb : Below B w w1) (hl : ∀ k, v.ownBlock = some k → k < B) : w1.ownsRow base e size v n xs := by
  refine ⟨h.1, ?_⟩
  rcases h.2 with h0 | ⟨g, cap, cur, hv, h1, h2, h3⟩
  · exact .inl h0
  · exact .inr ⟨g, cap, cur, hv, h1, by rw [hb.block g (hl g (by rw [hv]; rfl))]; exact h2, h3⟩
theorem vals_cons (z : Nat → Nat) (n : Nat) : .int .u8 (z 0 : Nat) :: vals (fun i => z (1 + i)) n = vals z (1 + n) := by
  simp [vals, List.range_add]
theorem vals_add (z : Nat → Nat) (m n : Nat) : vals z m ++ vals (fun i => z (m + i)) n = vals z (m + n) := by
  simp [vals, List.range_add]
theorem vals_congr (y z : Nat → Nat) (n : Nat) (h : ∀ i, i < n → y i = z i) : vals y n = vals z n := by
  simp only [vals]
  refine List.map_congr_left fun i hi => ?_
  rw [h i (List.mem_range.mp hi)]
/-- The room behind a row. -/
theorem cap_of_row {w : World} {base n cap g : Nat} {xs : List Value} (h : w.ownsRow base 5 1 (.slice (some ⟨g, 0, none⟩) n cap) n xs) : n ≤ cap ∧ cap ≤ maxLen := by
  rcases h.2 with ⟨h0, _⟩ | ⟨g', cap', cur, hv, _, _, h1, h2, _⟩
  · cases h0
  · cases hv; exact ⟨h1, h2⟩
end Go.Proofs.YtllgnclbbakliaaDoor
