/-
  Bytes copied into arrays of one's own.
-/
import Derived.Test.YtllgnclbbakliaaDoorArr
import Derived.Test.YtllgnclbbakliaaDoorWordsW
import Derived.Lib.LazyBuf
import Derived.Lib.SlBuf
namespace Go.Proofs.YtllgnclbbakliaaDoor
open Go.RowKit Go.Proofs
set_option linter.unusedVariables false
set_option linter.unusedSimpArgs false

/-- The bytes of a string, 0 behind them. -/
def sby (s : ByteArray) (i : Nat) : Nat := ((s.data.toList[i]?).map UInt8.toNat).getD 0
theorem sby_lt (s : ByteArray) (i : Nat) : sby s i < 256 := by
  unfold sby
  cases s.data.toList[i]? with
  | none => decide
  | some x => exact x.toNat_lt
theorem sby_out (s : ByteArray) {i : Nat} (h : s.size ≤ i) : sby s i = 0 := by
  unfold sby
  rw [List.getElem?_eq_none (by rw [Array.length_toList]; exact h)]
  rfl
theorem sby_cells (s : ByteArray) : (s.data.toList.map fun x => Value.int .u8 (x.toNat : Int)) = arrL .u8 (sby s) s.size := by
  apply List.ext_getElem?
  intro i
  by_cases h : i < s.size
  · rw [arrL_get _ _ _ _ h]
    have h' : i < s.data.toList.length := by rw [Array.length_toList]; exact h
    unfold sby
    rw [List.getElem?_map, List.getElem?_eq_getElem h']
    rfl
  · rw [List.getElem?_eq_none (by rw [List.length_map, Array.length_toList]; exact Nat.le_of_not_lt h), List.getElem?_eq_none (by rw [arrL_length]; omega)]
/-- The first k of an array's cells stored. -/
theorem Arr.part {w : World} {k : IntKind} {b n m : Nat} {v : Nat → Nat} (t : Arr w k b n v) (u : Nat → Nat) (hm : m ≤ n) : Arr (w.setCells b 0 (arrL k u m)) k b n (fun i => if i < m then u i else v i) := by
  refine ⟨by rw [setCells_size]; exact t.lt, fun i hi => ?_, fun i hi => by rw [World.frozen?_setCells]; exact t.f i hi⟩
  by_cases h : i < m
  · have hin := World.cell?_setCells_in b (arrL k u m) 0 w (fun j hj => by rw [Nat.zero_add, t.c j (by rw [arrL_length] at hj; omega)]; rfl) i (by rw [arrL_length]; exact h)
    rw [Nat.zero_add] at hin
    rw [hin, if_pos h]
    have := arrL_get k u m i h
    rw [List.getElem?_eq_getElem (by rw [arrL_length]; exact h)] at this
    exact this
  · rw [World.cell?_setCells_out b _ 0 w _ (fun _ _ => Or.inr (by rw [arrL_length]; show 0 + m ≤ i; omega)), if_neg h]
    exact t.c i hi
theorem sizeByte : ∀ w, (Go.sizeOf 5).run Tryd.prog w = .ok 1 w := by
  obtain ⟨i, hi, h1, _⟩ := byteInfo
  intro w
  simp [sizeOf, typeInfo, hi, h1]
theorem sizeByte' : (Tryd.prog.info? 5).map (·.size) = some 1 := by kernel_rfl
/-- A string copied into bytes that are 0. -/
theorem Arr.copyStr {w : World} {b n : Nat} (t : Arr w .u8 b n (fun _ => 0)) (s : ByteArray) (hs : s.size ≤ n) (c : Nat) (ty : TypeId) :
    ∃ w', (Builtin.copy_ #[27, 9] ty #[.slice (some ⟨b, 0, none⟩) n c, .string s]).run Tryd.prog w = .ok (goInt s.size) w' ∧ Hid (w' = w.setCells b 0 (arrL .u8 (sby s) s.size)) ∧ Hid (Arr w' .u8 b n (sby s)) ∧ w'.heap.size = w.heap.size := by
  have h := run_copy_string (P := Tryd.prog) w 27 9 ty 5 b 0 n c s Tryd.underlying27 sizeByte hs (fun j hj => by rw [Nat.zero_add, t.c j (by omega)]; rfl) (fun j hj => by rw [Nat.zero_add]; exact t.f j (by omega))
  rw [sby_cells] at h
  refine ⟨_, h, rfl, ?_, setCells_size _ _ _ _⟩
  exact (t.part (sby s) hs).congr fun i hi => by
    by_cases hh : i < s.size
    · rw [if_pos hh]
    · rw [if_neg hh, sby_out s (by omega)]
/-- The whole of an array, in a region that draws its order. -/
theorem yieldsArr {ops : Array Oper} {S : World → Prop} {op : Oper} {a : Act} (hw : Region.wanted op (yielded ops a.tmps) = true) (ty : TypeId) (x : Operand) (ho : op.op = .load ty x)
    (b : Nat) (hx : a.eval x = .pointer (some ⟨b, 0, none⟩)) {k : IntKind} {n : Nat} {v : Nat → Nat} {d : TypeDesc} (hS : ∀ w, S w → Arr w k b n v)
    (hu : Tryd.prog.underlying ty = some d) (hd : d.isRow = true) (hi : (Tryd.prog.info? ty).map (·.size) = some n) : YieldsIf Tryd.prog ops S op (.agg (arrL k v n).toArray) a :=
  yieldsIf_load_mid hw ty x ho b 0 hx (arrL k v n) d (fun w h => (hS w h).range) hu hd (by rw [arrL_length]; exact hi)
theorem wp_storeArr {op : Oper} {a : Act} {w : World} {K : Act → World → Prop} {Q : Exit → Act → World → Prop} (ty : TypeId) (x y : Operand) (ho : op.op = .store ty x y)
    (b : Nat) (hx : a.eval x = .pointer (some ⟨b, 0, none⟩)) {k : IntKind} {n : Nat} {v : Nat → Nat} (v' : Nat → Nat) (hy : a.eval y = .agg (arrL k v' n).toArray) (t : Arr w k b n v)
    (hi : (Tryd.prog.info? ty).map (·.size) = some n)
    (h : ∀ w', Hid (w' = w.setCells b 0 (arrL k v' n)) → Hid (Arr w' k b n v') → w'.heap.size = w.heap.size → K (a.put op.dst undef) w') : op.wp Tryd.prog a w K Q := by
  have hs : (arrL k v' n).toArray.size = n := by simp [arrL_length]
  exact wp_store_mid ty x y ho b 0 (arrL k v' n).toArray hx hy (by rw [hs]; exact t.there) (by rw [hs]; exact hi) (all_oneCell_toArray (arrL_one k v' n))
    (by rw [List.toList_toArray]; exact h _ rfl (t.whole v') (setCells_size _ _ _ _))
/-- n bytes that may be read at an address. -/
def Src (w : World) (a : Option Addr) (n : Nat) (z : Nat → Nat) : Prop := n = 0 ∨ ∃ b off, a = some ⟨b, off, none⟩ ∧ Bys w b off n z
theorem Src.below {w w1 : World} {a : Option Addr} {n : Nat} {z : Nat → Nat} (h : Src w a n z) (hb : Below w.heap.size w w1) : Src w1 a n z := by
  rcases h with h | ⟨b, off, ha, hB⟩
  · exact Or.inl h
  · exact Or.inr ⟨b, off, ha, hB.below hb hB.lt⟩
theorem Src.tail {w : World} {p : Option Addr} {m c T : Nat} {u : Nat → Nat} (h : Src w p m u) (hT : T ≤ m) (hc : m ≤ c) {p' : Option Addr} (hp : p' = if c = T then p else p.map (·.add T)) : Src w p' (m - T) (fun j => u (T + j)) := by
  by_cases e : m - T = 0
  · exact Or.inl e
  · rcases h with h | ⟨b, off, rfl, hB⟩
    · omega
    · right
      rw [if_neg (by omega)] at hp
      refine ⟨b, off + T, by rw [hp, Option.map_some, Addr.add_mid], hB.more T (m - T) (by omega)⟩
theorem Arr.copyBys {w : World} {B n : Nat} (t : Arr w .u8 B n (fun _ => 0)) {a : Option Addr} {m : Nat} {u : Nat → Nat} (hS : Src w a m u) (c c' : Nat) (ty : TypeId) {T : Nat} (hT : min m n = T) :
    ∃ w', (Builtin.copy_ #[27, 27] ty #[.slice (some ⟨B, 0, none⟩) n c, .slice a m c']).run Tryd.prog w = .ok (.int .i64 (T : Nat)) w' ∧ Hid (w' = w.setCells B 0 (arrL .u8 u T)) ∧ Hid (Arr w' .u8 B n (fun j => if j < m then u j else 0)) ∧ w'.heap.size = w.heap.size := by
  have ht : T ≤ n := by omega
  have hA : Arr (w.setCells B 0 (arrL .u8 u T)) .u8 B n (fun j => if j < m then u j else 0) := (t.part u ht).congr fun i hi => by
    by_cases h : i < T
    · rw [if_pos h, if_pos (by omega)]
    · rw [if_neg h, if_neg (by omega)]
  rcases hS with h0 | ⟨b, off, rfl, hB⟩
  · have hT0 : T = 0 := by omega
    subst hT0
    refine ⟨_, ?_, rfl, hA, setCells_size _ _ _ _⟩
    exact run_copy_none (P := Tryd.prog) w 27 27 ty 5 _ _ n c m c' Tryd.underlying27 sizeByte' (by rw [h0]; exact Nat.zero_min _)
  · refine ⟨_, ?_, rfl, hA, setCells_size _ _ _ _⟩
    have := run_copy_cells (P := Tryd.prog) w 27 27 ty 5 B 0 n c ⟨b, off, none⟩ m c' (arrL .u8 u T) Tryd.underlying27 sizeByte' (by rw [arrL_length]; exact hT.symm)
      (fun j v hv => by
        have hj : j < T := by have := (List.getElem?_eq_some_iff.1 hv).1; rwa [arrL_length] at this
        rw [arrL_get _ _ _ _ hj] at hv
        rw [Addr.add_mid, hB.at_ j (by omega)]
        exact hv)
      (fun j hj => by rw [arrL_length] at hj; rw [Nat.zero_add, t.c j (by omega)]; rfl) (fun j hj => by rw [arrL_length] at hj; rw [Nat.zero_add]; exact t.f j (by omega)) (arrL_one _ _ _)
    rw [arrL_length] at this
    exact this
theorem wpList_tail {ops : Array Oper} {rest : List Oper} {dst : Option Tmp} {ty' : TypeId} {x l : Operand} {ps : String} {af : Array Edge} {a : Act} {w : World} {Q : Exit → Act → World → Prop}
    {ty : TypeId} {p : Option Addr} {m c T : Nat} (hT : T ≤ m) (hty : ty = 27) (hx : a.eval x = .slice p m c) (hl : a.eval l = .int .i64 (T : Nat))
    (h : ∀ p', Hid (p' = if c = T then p else p.map (·.add T)) → wpList Tryd.prog ops Q rest (a.put dst (.slice p' (m - T) (c - T))) w) : wpList Tryd.prog ops Q (⟨dst, .slice ty x (some l) none none, ty', ps, af, none⟩ :: rest) a w :=
  wpList_plain rfl fun K hK => by
    subst hty
    have hr : (Instr.sliceAt 27 (.slice p m c) (some (.int .i64 (T : Nat))) none none).run Tryd.prog w = .ok (.slice (if c = T then p else p.map (·.add T)) (m - T) (c - T)) w := by
      rw [run_sliceAt_slice w _ _ _ _ _ (show Tryd.prog.underlying 27 = some (.slice (Tryd.prog.elem 27)) by kernel_rfl), run_slice_l w _ _ _ _ (show Tryd.prog.underlying 27 = some (.slice (Tryd.prog.elem 27)) by kernel_rfl) .i64 (T : Nat) (by omega) (by omega)]
      have he : Tryd.prog.elem 27 = 5 := by kernel_rfl
      rw [he, sizeByte]
      simp [Result.andThen, sliced]
    unfold Oper.wp
    simp only [execOp, hx, hl, Option.map_some, Option.map_none, hr, Sem.run_bind, Sem.run_pure, Result.andThen_ok]
    exact hK _ _ (h _ rfl)
end Go.Proofs.YtllgnclbbakliaaDoor
