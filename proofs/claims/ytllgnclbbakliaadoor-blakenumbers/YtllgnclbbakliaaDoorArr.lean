/-
  Arrays of integers, as variables of one's own.
-/
import Derived.Test.YtllgnclbbakliaaDoorKit4
import Derived.Test.YtllgnclbbakliaaDoorMix
import Derived.Deep.MidRow
import Derived.Laws.BitsLemmas
namespace Go.Proofs.YtllgnclbbakliaaDoor
open Go.RowKit Go.Proofs
set_option linter.unusedVariables false
set_option linter.unusedSimpArgs false

def arrL (k : IntKind) (v : Nat → Nat) (n : Nat) : List Value := (List.range n).map fun i => .int k (v i : Nat)
def arrV (k : IntKind) (v : Nat → Nat) (n : Nat) : Value := .agg (arrL k v n).toArray
theorem arrL_length (k : IntKind) (v : Nat → Nat) (n : Nat) : (arrL k v n).length = n := by unfold arrL; simp
theorem arrL_get (k : IntKind) (v : Nat → Nat) (n i : Nat) (h : i < n) : (arrL k v n)[i]? = some (.int k (v i : Nat)) := by unfold arrL; simp [h]
theorem arrL_one (k : IntKind) (v : Nat → Nat) (n : Nat) : ∀ u ∈ arrL k v n, u.oneCell' = true := by
  unfold arrL
  intro u hu
  obtain ⟨_, _, rfl⟩ := List.mem_map.1 hu
  rfl
theorem arrL_congr {k : IntKind} {v v' : Nat → Nat} {n : Nat} (h : ∀ i, i < n → v i = v' i) : arrL k v n = arrL k v' n := by
  unfold arrL
  exact List.map_congr_left fun i hi => by rw [h i (List.mem_range.1 hi)]
/-- An array of n numbers lies in block b. -/
structure Arr (w : World) (k : IntKind) (b n : Nat) (v : Nat → Nat) : Prop where
  lt : b < w.heap.size
  c : ∀ i, i < n → w.cell? ⟨b, i, none⟩ = some (.int k (v i : Nat))
  f : ∀ i, i < n → w.frozen? ⟨b, i, none⟩ = false
theorem Arr.below {w w1 : World} {k : IntKind} {B b n : Nat} {v : Nat → Nat} (t : Arr w k b n v) (hb : Below B w w1) (h : b < B) : Arr w1 k b n v :=
  ⟨Nat.lt_of_lt_of_le t.lt hb.size, fun i hi => by rw [(bcell hb).1 b i h]; exact t.c i hi, fun i hi => by rw [(bcell hb).2 b i h]; exact t.f i hi⟩
theorem Arr.via {w w1 : World} {k : IntKind} {B b n : Nat} {v : Nat → Nat} (hb : Below B w w1) (t : Arr w k b n v) (h : b < B) : Arr w1 k b n v := t.below hb h
theorem Arr.alloc {w : World} {k : IntKind} {b n : Nat} {v : Nat → Nat} (t : Arr w k b n v) (o : Obj) : Arr (w.alloc o) k b n v := t.below ((Below.refl w.heap.size w).alloc (Nat.le_refl _) o) t.lt
theorem Arr.drew {w : World} {k : IntKind} {b n : Nat} {v : Nat → Nat} (t : Arr w k b n v) : Arr w.drew k b n v := t.below ((Below.refl w.heap.size w).drew) t.lt
theorem Arr.drewN {w : World} {k : IntKind} {b n : Nat} {v : Nat → Nat} (t : Arr w k b n v) (m : Nat) : Arr (w.drewN m) k b n v := t.below (below_drewN (Below.refl w.heap.size w) m) t.lt
theorem Arr.far {w : World} {k : IntKind} {b b' n : Nat} {v : Nat → Nat} (t : Arr w k b n v) (h : b' ≠ b) (o : Nat) (z : Value) : Arr (w.setCell ⟨b', o, none⟩ z) k b n v :=
  ⟨by simp [t.lt], fun i hi => by rw [World.cell?_setCell_other _ _ _ _ (by simp [h]), t.c i hi], fun i hi => by simp [t.f i hi]⟩
theorem Arr.set {w : World} {k : IntKind} {b n : Nat} {v : Nat → Nat} (t : Arr w k b n v) {i z : Nat} (hi : i < n) : Arr (w.setCell ⟨b, i, none⟩ (.int k (z : Nat))) k b n (Ob.upd v i z) where
  lt := by simp [t.lt]
  c := fun j hj => by
    by_cases h : j = i
    · subst h
      rw [Ob.upd_same]
      exact World.cell?_setCell_same _ _ _ (t.c j hj)
    · rw [Ob.upd_ne _ _ h, World.cell?_setCell_other _ _ _ _ (by first | (simp; done) | (simp; omega)), t.c j hj]
  f := fun j hj => by simp [t.f j hj]
theorem Arr.new {w : World} {k : IntKind} {v : Nat → Nat} {n : Nat} {t : TypeId} {b : Nat} (h : b = w.heap.size) : Arr (w.alloc (.cells (arrL k v n).toArray t)) k b n v := by
  subst h
  exact ⟨by simp, fun i hi => by rw [World.cell?_alloc_at _ _ _ _ rfl, List.getElem?_toArray, arrL_get k v n i hi], fun i hi => by rw [World.frozen?_alloc_at _ _ _ _ rfl]⟩
theorem Arr.range {w : World} {k : IntKind} {b n : Nat} {v : Nat → Nat} (t : Arr w k b n v) : w.rangeAt b 0 (arrL k v n) := fun j u hu => by
  have hj : j < n := by have := (List.getElem?_eq_some_iff.1 hu).1; rwa [arrL_length] at this
  rw [arrL_get k v n j hj] at hu
  rw [Nat.zero_add, t.c j hj]; exact hu
theorem Arr.there {w : World} {k : IntKind} {b n : Nat} {v : Nat → Nat} (t : Arr w k b n v) : w.there b 0 n := fun j hj => by
  rw [Nat.zero_add]
  exact ⟨by rw [t.c j hj]; rfl, t.f j hj⟩

theorem setCells_size (w : World) (b o : Nat) (cs : List Value) : (w.setCells b o cs).heap.size = w.heap.size := by
  induction cs generalizing o w with
  | nil => rfl
  | cons c r ih => rw [World.setCells, ih]; exact World.size_setCell _ _ _
/-- The whole of it stored. -/
theorem Arr.whole {w : World} {k : IntKind} {b n : Nat} {v : Nat → Nat} (t : Arr w k b n v) (v' : Nat → Nat) : Arr (w.setCells b 0 (arrL k v' n)) k b n v' := by
  have h := World.rangeAt_setCells_same w b 0 (arrL k v' n) (by rw [arrL_length]; exact t.there)
  have ht := World.there_setCells t.there b 0 (arrL k v' n)
  refine ⟨?_, fun i hi => ?_, fun i hi => ?_⟩
  · by_cases hn : n = 0
    · subst hn
      exact t.lt
    · have := h 0 _ (arrL_get k v' n 0 (by omega))
      simpa using World.block_lt_of_cell? _ _ this
  · have := h i _ (arrL_get k v' n i hi)
    rwa [Nat.zero_add] at this
  · have := (ht i hi).2
    rwa [Nat.zero_add] at this
theorem below_setCells {B b : Nat} {a w : World} (h : Below B a w) (hb : B ≤ b) (vs : List Value) : ∀ o, Below B a (w.setCells b o vs) := by
  induction vs generalizing w with
  | nil => intro o; exact h
  | cons v r ih => intro o; exact ih (h.setCell hb _) (o + 1)
theorem Arr.farCells {w : World} {k : IntKind} {b b' n : Nat} {v : Nat → Nat} (t : Arr w k b n v) (h : b' ≠ b) (o : Nat) (cs : List Value) : Arr (w.setCells b' o cs) k b n v := by
  have hs : ∀ (cs : List Value) (o : Nat) (w : World), Arr w k b n v → Arr (w.setCells b' o cs) k b n v := by
    intro cs
    induction cs with
    | nil => intro o w t; exact t
    | cons c r ih => intro o w t; exact ih (o + 1) _ (t.far h o c)
  exact hs cs o w t
theorem Arr.congr {w : World} {k : IntKind} {b n : Nat} {v v' : Nat → Nat} (t : Arr w k b n v) (h : ∀ i, i < n → v i = v' i) : Arr w k b n v' :=
  ⟨t.lt, fun i hi => by rw [← h i hi]; exact t.c i hi, t.f⟩
theorem Arr.new16 {w : World} {t : TypeId} : Arr (w.alloc (.cells #[.int .u32 0, .int .u32 0, .int .u32 0, .int .u32 0, .int .u32 0, .int .u32 0, .int .u32 0, .int .u32 0, .int .u32 0, .int .u32 0, .int .u32 0, .int .u32 0, .int .u32 0, .int .u32 0, .int .u32 0, .int .u32 0] t)) .u32 w.heap.size 16 (fun _ => 0) := Arr.new (k := .u32) (n := 16) (v := fun _ => 0) rfl
theorem Arr.new8 {w : World} {t : TypeId} : Arr (w.alloc (.cells #[.int .u32 0, .int .u32 0, .int .u32 0, .int .u32 0, .int .u32 0, .int .u32 0, .int .u32 0, .int .u32 0] t)) .u32 w.heap.size 8 (fun _ => 0) := Arr.new (k := .u32) (n := 8) (v := fun _ => 0) rfl
theorem Arr.new8b {w : World} {t : TypeId} : Arr (w.alloc (.cells #[.int .u8 0, .int .u8 0, .int .u8 0, .int .u8 0, .int .u8 0, .int .u8 0, .int .u8 0, .int .u8 0] t)) .u8 w.heap.size 8 (fun _ => 0) := Arr.new (k := .u8) (n := 8) (v := fun _ => 0) rfl
theorem Arr.new64b {w : World} {t : TypeId} : Arr (w.alloc (.cells #[.int .u8 0, .int .u8 0, .int .u8 0, .int .u8 0, .int .u8 0, .int .u8 0, .int .u8 0, .int .u8 0, .int .u8 0, .int .u8 0, .int .u8 0, .int .u8 0, .int .u8 0, .int .u8 0, .int .u8 0, .int .u8 0, .int .u8 0, .int .u8 0, .int .u8 0, .int .u8 0, .int .u8 0, .int .u8 0, .int .u8 0, .int .u8 0, .int .u8 0, .int .u8 0, .int .u8 0, .int .u8 0, .int .u8 0, .int .u8 0, .int .u8 0, .int .u8 0, .int .u8 0, .int .u8 0, .int .u8 0, .int .u8 0, .int .u8 0, .int .u8 0, .int .u8 0, .int .u8 0, .int .u8 0, .int .u8 0, .int .u8 0, .int .u8 0, .int .u8 0, .int .u8 0, .int .u8 0, .int .u8 0, .int .u8 0, .int .u8 0, .int .u8 0, .int .u8 0, .int .u8 0, .int .u8 0, .int .u8 0, .int .u8 0, .int .u8 0, .int .u8 0, .int .u8 0, .int .u8 0, .int .u8 0, .int .u8 0, .int .u8 0, .int .u8 0] t)) .u8 w.heap.size 64 (fun _ => 0) := Arr.new (k := .u8) (n := 64) (v := fun _ => 0) rfl
/-- The whole of it read. -/
theorem Arr.loadAt {w : World} {k : IntKind} {b n : Nat} {v : Nat → Nat} (t : Arr w k b n v) {ty : TypeId} {d : TypeDesc} (hu : Tryd.prog.underlying ty = some d) (hd : d.isRow = true) (hi : (Tryd.prog.info? ty).map (·.size) = some n) :
    (Instr.loadAt ty (.pointer (some ⟨b, 0, none⟩))).run Tryd.prog w = .ok (.agg (arrL k v n).toArray) w :=
  run_loadAt_mid w b 0 ty (arrL k v n) d t.range hu hd (by rw [arrL_length]; exact hi)
theorem Arr.loadVar {w : World} {k : IntKind} {b n : Nat} {v : Nat → Nat} (t : Arr w k b n v) {ty : TypeId} {d : TypeDesc} (hu : Tryd.prog.underlying ty = some d) (hd : d.isRow = true) (hi : (Tryd.prog.info? ty).map (·.size) = some n) :
    (Go.loadVar ty ⟨b, 0, none⟩).run Tryd.prog w = .ok (.agg (arrL k v n).toArray) w :=
  run_loadVar_mid w b 0 ty (arrL k v n) d t.range hu hd (by rw [arrL_length]; exact hi)
/-- The whole of it stored: the world behind it. -/
theorem Arr.storeAt {w : World} {k : IntKind} {b n : Nat} {v : Nat → Nat} (t : Arr w k b n v) (v' : Nat → Nat) {ty : TypeId} (hi : (Tryd.prog.info? ty).map (·.size) = some n) :
    ∃ w', (Instr.storeAt ty (.pointer (some ⟨b, 0, none⟩)) (.agg (arrL k v' n).toArray)).run Tryd.prog w = .ok () w' ∧ Hid (w' = w.setCells b 0 (arrL k v' n)) ∧ Arr w' k b n v' ∧ w'.heap.size = w.heap.size :=
  ⟨_, run_storeAt_mid w b 0 ty (arrL k v' n).toArray (by rw [show (arrL k v' n).toArray.size = n by simp [arrL_length]]; exact t.there) (by rw [show (arrL k v' n).toArray.size = n by simp [arrL_length]]; exact hi) (all_oneCell_toArray (arrL_one k v' n)), rfl, t.whole v', setCells_size _ _ _ _⟩
theorem wpList_loadArr {ops : Array Oper} {rest : List Oper} {op : Oper} {a : Act} {w : World} {Q : Exit → Act → World → Prop} (hgd : op.guard = none) (ty : TypeId) (x : Operand) (ho : op.op = .load ty x)
    (b : Nat) (hx : a.eval x = .pointer (some ⟨b, 0, none⟩)) {k : IntKind} {n : Nat} {v : Nat → Nat} {d : TypeDesc} (t : Arr w k b n v)
    (hu : Tryd.prog.underlying ty = some d) (hd : d.isRow = true) (hi : (Tryd.prog.info? ty).map (·.size) = some n)
    (h : wpList Tryd.prog ops Q rest (a.put op.dst (.agg (arrL k v n).toArray)) w) : wpList Tryd.prog ops Q (op :: rest) a w :=
  wpList_load_mid hgd ty x ho b 0 hx (arrL k v n) d t.range hu hd (by rw [arrL_length]; exact hi) h
theorem wpList_storeArr {ops : Array Oper} {rest : List Oper} {op : Oper} {a : Act} {w : World} {Q : Exit → Act → World → Prop} (hgd : op.guard = none) (ty : TypeId) (x y : Operand) (ho : op.op = .store ty x y)
    (b : Nat) (hx : a.eval x = .pointer (some ⟨b, 0, none⟩)) {k : IntKind} {n : Nat} {v : Nat → Nat} (v' : Nat → Nat) (hy : a.eval y = .agg (arrL k v' n).toArray) (t : Arr w k b n v)
    (hi : (Tryd.prog.info? ty).map (·.size) = some n)
    (h : ∀ w', Hid (w' = w.setCells b 0 (arrL k v' n)) → Hid (Arr w' k b n v') → w'.heap.size = w.heap.size → wpList Tryd.prog ops Q rest (a.put op.dst undef) w') : wpList Tryd.prog ops Q (op :: rest) a w := by
  have hs : (arrL k v' n).toArray.size = n := by simp [arrL_length]
  exact wpList_store_mid hgd ty x y ho b 0 (arrL k v' n).toArray hx hy (by rw [hs]; exact t.there) (by rw [hs]; exact hi) (all_oneCell_toArray (arrL_one k v' n))
    (by rw [List.toList_toArray]; exact h _ rfl (t.whole v') (setCells_size _ _ _ _))
theorem wpList_loadLit {ops : Array Oper} {rest : List Oper} {dst : Option Tmp} {ty ty' : TypeId} {x : Operand} {ps : String} {af : Array Edge} {a : Act} {w : World} {Q : Exit → Act → World → Prop}
    {b : Nat} {k : IntKind} {n : Nat} {v : Nat → Nat} {d : TypeDesc} (t : Arr w k b n v) (hx : a.eval x = .pointer (some ⟨b, 0, none⟩))
    (hu : Tryd.prog.underlying ty = some d) (hd : d.isRow = true) (hi : (Tryd.prog.info? ty).map (·.size) = some n)
    (h : wpList Tryd.prog ops Q rest (a.put dst (.agg (arrL k v n).toArray)) w) : wpList Tryd.prog ops Q (⟨dst, .load ty x, ty', ps, af, none⟩ :: rest) a w :=
  wpList_loadArr rfl ty x rfl b hx t hu hd hi h
theorem wpList_storeLit {ops : Array Oper} {rest : List Oper} {dst : Option Tmp} {ty ty' : TypeId} {x y : Operand} {ps : String} {af : Array Edge} {a : Act} {w : World} {Q : Exit → Act → World → Prop}
    {b : Nat} {k : IntKind} {n : Nat} {v : Nat → Nat} (v' : Nat → Nat) (t : Arr w k b n v) (hx : a.eval x = .pointer (some ⟨b, 0, none⟩)) (hy : a.eval y = .agg (arrL k v' n).toArray)
    (hi : (Tryd.prog.info? ty).map (·.size) = some n)
    (h : ∀ w', Hid (w' = w.setCells b 0 (arrL k v' n)) → Hid (Arr w' k b n v') → w'.heap.size = w.heap.size → wpList Tryd.prog ops Q rest (a.put dst undef) w') : wpList Tryd.prog ops Q (⟨dst, .store ty x y, ty', ps, af, none⟩ :: rest) a w :=
  wpList_storeArr rfl ty x y rfl b hx v' hy t hi h
/-- n numbers that lie in a block, from its head on, to be read. -/
structure Rd (w : World) (k : IntKind) (b n : Nat) (v : Nat → Nat) : Prop where
  lt : b < w.heap.size
  c : ∀ i, i < n → w.cell? ⟨b, i, none⟩ = some (.int k (v i : Nat))
theorem Rd.below {w w1 : World} {k : IntKind} {B b n : Nat} {v : Nat → Nat} (t : Rd w k b n v) (hb : Below B w w1) (h : b < B) : Rd w1 k b n v :=
  ⟨Nat.lt_of_lt_of_le t.lt hb.size, fun i hi => by rw [(bcell hb).1 b i h]; exact t.c i hi⟩
theorem Rd.drew {w : World} {k : IntKind} {b n : Nat} {v : Nat → Nat} (t : Rd w k b n v) : Rd w.drew k b n v := t.below ((Below.refl w.heap.size w).drew) t.lt
theorem Rd.drewN {w : World} {k : IntKind} {b n : Nat} {v : Nat → Nat} (t : Rd w k b n v) (m : Nat) : Rd (w.drewN m) k b n v := t.below (below_drewN (Below.refl w.heap.size w) m) t.lt
theorem Rd.far {w : World} {k : IntKind} {b b' n : Nat} {v : Nat → Nat} (t : Rd w k b n v) (h : b' ≠ b) (o : Nat) (z : Value) : Rd (w.setCell ⟨b', o, none⟩ z) k b n v :=
  ⟨by simp [t.lt], fun i hi => by rw [World.cell?_setCell_other _ _ _ _ (by simp [h]), t.c i hi]⟩
theorem Arr.rd {w : World} {k : IntKind} {b n : Nat} {v : Nat → Nat} (t : Arr w k b n v) : Rd w k b n v := ⟨t.lt, t.c⟩
/-! Words of 32 bits -/
def wordAt (z : Nat → Nat) (j : Nat) : Nat := z (4 * j) + 256 * z (4 * j + 1) + 65536 * z (4 * j + 2) + 16777216 * z (4 * j + 3)
theorem wraps_u32 (n : Int) (h0 : 0 ≤ n) (h1 : n < 2 ^ 32) : IntKind.u32.wrap n = n := by rw [IntKind.wrap_u32]; omega
theorem xor_u32 (a b : Nat) (ha : a < 4294967296) (hb : b < 4294967296) : bits .xor .u32 (a : Int) (b : Int) = ((a ^^^ b : Nat) : Int) := by
  have ha' : a % 2 ^ 32 = a := Nat.mod_eq_of_lt ha
  have hb' : b % 2 ^ 32 = b := Nat.mod_eq_of_lt hb
  have hk : IntKind.u32.bits = 32 := rfl
  simp only [bits, BitVec.ofInt_natCast, BitVec.toNat_xor, BitVec.toNat_ofNat, hk, ha', hb']
  exact wraps_u32 _ (Int.natCast_nonneg _) (by have := Ob.xor_lt ha hb; omega)
theorem or_u32 (a b n : Nat) (hn : n ≤ 32) (ha : a < 2 ^ n) (hb : b < 2 ^ (32 - n)) : bits .or .u32 (a : Int) ((b * 2 ^ n : Nat) : Int) = ((a + b * 2 ^ n : Nat) : Int) := by
  have e : (2 : Nat) ^ n * 2 ^ (32 - n) = 4294967296 := by rw [← Nat.pow_add, Nat.add_sub_cancel' hn]
  have h1 : a < 2 ^ 32 := Nat.lt_of_lt_of_le ha (Nat.pow_le_pow_right (by decide) hn)
  have h2 : b * 2 ^ n < 2 ^ 32 := by
    have : (b + 1) * 2 ^ n ≤ 2 ^ (32 - n) * 2 ^ n := Nat.mul_le_mul_right _ hb
    rw [Nat.mul_comm (2 ^ (32 - n)), e, Nat.add_mul, Nat.one_mul] at this
    have := Nat.two_pow_pos n
    omega
  rw [(bits_nat .u32 32 (by decide) wraps_u32 a (b * 2 ^ n) h1 h2).2, Nat.or_comm, Nat.mul_comm, ← Nat.two_pow_add_eq_or_of_lt ha b, Nat.add_comm]
end Go.Proofs.YtllgnclbbakliaaDoor
