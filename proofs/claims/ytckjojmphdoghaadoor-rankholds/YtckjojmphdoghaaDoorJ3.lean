/-
  Joined texts: Lists of terms of one's own: that grow, term by term; that are copies; that are stored into. Lists of terms summed up: what makes a list the sum of another, that there is just one, that it has the same value. Lists of terms summed up, variable by variable from the least on. The document's own answers of layer 11 (package obolref11): a list summed up. '==' of two terms. The document's own answers of layer 11 (package obolref11): lists compared; light systems; sound systems. Rows of words of one's own that grow, word by word. The walk of layer 11's statement that systems, lists and values stay, over what package rank's calls answer. The walks of package rank: sums of two, sound lists, a list's value.
-/
import Derived.Test.YtckjojmphdoghaaDoorJ1
import Derived.Test.YtckjojmphdoghaaDoorJ2
import Derived.Deep.AppendLies
import Derived.Deep.AppendSrc
import Derived.Deep.DeepAppendRoom
import Derived.Laws.AppendOwn
import Derived.Laws.OwnMore
import Derived.OwnWalk

namespace Go.Proofs.YtckjojmphdoghaaDoor
open Go.RowKit Go.Proofs
set_option linter.unusedVariables false
set_option linter.unusedSimpArgs false

theorem trmInfo : ∃ i, Tryd.prog.info? 46 = some i ∧ i.size = 2 ∧ i.bytes = 16 ∧ i.zero = some (.agg #[.int .i64 0, .int .u64 0]) := by
  have h1 : (Tryd.prog.info? 46).map (·.size) = some 2 := by kernel_rfl
  have h2 : (Tryd.prog.info? 46).map (·.bytes) = some 16 := by kernel_rfl
  have h3 : (Tryd.prog.info? 46).bind (·.zero) = some (.agg #[.int .i64 0, .int .u64 0]) := by kernel_rfl
  cases hi : Tryd.prog.info? 46 with
  | none => rw [hi] at h1; cases h1
  | some i =>
    rw [hi] at h1 h2 h3
    exact ⟨i, rfl, Option.some.inj h1, Option.some.inj h2, h3⟩
/-- The cells of n terms. -/
def tals (V : Nat → Int) (K : Nat → Nat) : Nat → List Value
  | 0 => []
  | n + 1 => tals V K n ++ [.int .i64 (V n), .int .u64 (K n : Nat)]
theorem tals_length (V : Nat → Int) (K : Nat → Nat) : ∀ n, (tals V K n).length = n * 2
  | 0 => rfl
  | n + 1 => by
    show (tals V K n ++ _).length = _
    rw [List.length_append, tals_length V K n]
    show n * 2 + 2 = _
    omega
theorem tals_get (V : Nat → Int) (K : Nat → Nat) {i : Nat} : ∀ {n : Nat}, i < n → (tals V K n)[i * 2]? = some (.int .i64 (V i)) ∧ (tals V K n)[i * 2 + 1]? = some (.int .u64 (K i : Nat))
  | n + 1, hi => by
    show (tals V K n ++ [_, _])[i * 2]? = _ ∧ (tals V K n ++ [_, _])[i * 2 + 1]? = _
    have hl := tals_length V K n
    rcases Nat.lt_or_ge i n with h | h
    · rw [List.getElem?_append_left (by omega), List.getElem?_append_left (by omega)]
      exact tals_get V K h
    · obtain rfl : i = n := by omega
      rw [List.getElem?_append_right (by omega), List.getElem?_append_right (by omega), hl]
      rw [show i * 2 - i * 2 = 0 by omega, show i * 2 + 1 - i * 2 = 1 by omega]
      exact ⟨rfl, rfl⟩
theorem tals_one (V : Nat → Int) (K : Nat → Nat) : ∀ n, ∀ u ∈ tals V K n, u.oneCell' = true
  | 0, u, hu => by cases hu
  | n + 1, u, hu => by
    rcases List.mem_append.1 hu with h | h
    · exact tals_one V K n u h
    · simp at h
      rcases h with rfl | rfl <;> rfl
theorem tals_congr {V V' : Nat → Int} {K K' : Nat → Nat} : ∀ {n : Nat}, (∀ i, i < n → V i = V' i ∧ K i = K' i) → tals V K n = tals V' K' n
  | 0, _ => rfl
  | n + 1, h => by
    show tals V K n ++ [_, _] = tals V' K' n ++ [_, _]
    rw [tals_congr fun i hi => h i (by omega), (h n (by omega)).1, (h n (by omega)).2]
theorem addr_add (b off j : Nat) : (⟨b, off, none⟩ : Addr).add j = ⟨b, off + j, none⟩ := by unfold Addr.add; split <;> simp_all
theorem tals_lie {w : World} {b off n : Nat} {V : Nat → Int} {K : Nat → Nat} (t : TrmsIn w b off n V K) (j : Nat) (u : Value) (h : (tals V K n)[j]? = some u) : w.cell? ((⟨b, off, none⟩ : Addr).add j) = some u := by
  have hj : j < n * 2 := by rw [← tals_length V K n]; exact (List.getElem?_eq_some_iff.1 h).1
  rw [addr_add]
  have hi : j / 2 < n := by omega
  have g := tals_get V K hi
  rcases (show j % 2 = 0 ∨ j % 2 = 1 by omega) with hm | hm
  · have e : j / 2 * 2 = j := by omega
    have c := t.c0 (j / 2) hi
    rw [e] at g c
    rw [g.1] at h
    rw [c]; exact h
  · have e : j / 2 * 2 + 1 = j := by omega
    have c := t.c1 (j / 2) hi
    rw [Nat.add_assoc, e] at c
    rw [e] at g
    rw [g.2] at h
    rw [c]; exact h

/-- A list of one's own of n terms, none of it below base. -/
def OwnT (w : World) (base : Nat) (v : Value) (n : Nat) (V : Nat → Int) (K : Nat → Nat) : Prop := w.ownsRow base 46 2 v n (tals V K n)
theorem OwnT.nil (w : World) (base : Nat) (V : Nat → Int) (K : Nat → Nat) : OwnT w base (.slice none 0 0) 0 V K := World.ownsRow_nil w base _ 2
theorem OwnT.lt {w : World} {base : Nat} {v : Value} {n : Nat} {V : Nat → Int} {K : Nat → Nat} (h : OwnT w base v n V K) : ∀ k, v.ownBlock = some k → base ≤ k ∧ k < w.heap.size := World.ownsRow.lt h
theorem OwnT.below {w w1 : World} {B base : Nat} {v : Value} {n : Nat} {V : Nat → Int} {K : Nat → Nat} (h : OwnT w base v n V K) (hb : Below B w w1) (hl : ∀ k, v.ownBlock = some k → k < B) : OwnT w1 base v n V K := own_below h hb hl
theorem OwnT.on {w w1 : World} {base : Nat} {v : Value} {n : Nat} {V : Nat → Int} {K : Nat → Nat} (h : OwnT w base v n V K) (hb : Below w.heap.size w w1) : OwnT w1 base v n V K := h.below hb fun k hk => (h.lt k hk).2
theorem OwnT.congr {w : World} {base : Nat} {v : Value} {n : Nat} {V V' : Nat → Int} {K K' : Nat → Nat} (h : OwnT w base v n V K) (e : ∀ i, i < n → V i = V' i ∧ K i = K' i) : OwnT w base v n V' K' := by
  unfold OwnT
  rw [← tals_congr e]
  exact h
theorem OwnT.trms {w : World} {base : Nat} {v : Value} {n : Nat} {V : Nat → Int} {K : Nat → Nat} (h : OwnT w base v n V K) : ∃ a c, v = .slice a n c ∧ n ≤ c ∧ c ≤ maxLen ∧ TrmsAt w.heap.size w a n V K := by
  rcases h.2 with ⟨rfl, rfl⟩ | ⟨g, cap, cur, rfl, h1, h2, h3, h4, h5, h6⟩
  · exact ⟨none, 0, rfl, by omega, by omega, Or.inl rfl⟩
  · have hlt : g < w.heap.size := (h.lt g rfl).2
    refine ⟨_, cap, rfl, h3, h4, Or.inr ⟨g, 0, rfl, hlt, hlt, fun i hi => ?_, fun i hi => ?_⟩⟩
    · have := World.ownsRow.cells h (g := g) rfl (i * 2) _ (tals_get V K hi).1
      rw [addr_add] at this
      exact this
    · have := World.ownsRow.cells h (g := g) rfl (i * 2 + 1) _ (tals_get V K hi).2
      rw [addr_add] at this
      rw [Nat.add_assoc]
      exact this
/-- One term behind a list of one's own. -/
theorem run_app1T (w : World) (ty : TypeId) (base : Nat) (v : Value) (n : Nat) (V : Nat → Int) (K : Nat → Nat) (hown : OwnT w base v n V K) (g : Nat)
   (h0 : w.cell? ⟨g, 0, none⟩ = some (.int .i64 (V n))) (h1 : w.cell? ⟨g, 1, none⟩ = some (.int .u64 (K n : Nat))) (hn : n ≤ 1000000) (hbase : base ≤ w.heap.size) :
    ∃ v' w', (Builtin.append_ #[31, 31] ty #[v, .slice (some ⟨g, 0, none⟩) 1 1]).run Tryd.prog w = .ok v' w' ∧ OwnT w' base v' (n + 1) V K ∧ w.grownBy w' v.ownBlock := by
  obtain ⟨i0, hi, hz1, hz2, hz0⟩ := trmInfo
  obtain ⟨v', w', hr, h4, h5, h6⟩ := run_append_own (P := Tryd.prog) w base 31 ty 46 i0 _ 2 16 Tryd.underlying31 hi hz0 hz1 hz2 rfl (by decide) v n _ hown ⟨g, 0, none⟩ 1 1 [.int .i64 (V n), .int .u64 (K n : Nat)] rfl
    (fun j u h => by
      match j with
      | 0 => simp at h; subst h; exact h0
      | 1 => simp at h; subst h; exact h1
      | j + 2 => simp at h) (by simp [Value.oneCell']) (by unfold maxLen; omega) (by omega) hbase
  exact ⟨v', w', hr, h4, h5⟩
theorem OwnT.grown {w w' : World} {base : Nat} {v : Value} {n : Nat} {V : Nat → Int} {K : Nat → Nat} (hown : OwnT w base v n V K) (hg : w.grownBy w' v.ownBlock) (hbase : base ≤ w.heap.size) : Below base w w' :=
  (Below.refl base w).grown hg hbase (fun k hk => (hown.lt k hk).1)
/-- In a region that draws, and where operations go in order. -/
theorem wp_app1T {o : Oper} {a : Act} {w : World} {K' : Act → World → Prop} {Q : Exit → Act → World → Prop} (s x : Operand)
    (ho : o.op = .call { callee := .builtin .append, args := #[s, x], argTypes := #[31, 31] }) (base : Nat) (v : Value) (n : Nat) (V : Nat → Int) (K : Nat → Nat) (hs : a.eval s = v) (hown : OwnT w base v n V K) (g : Nat) (hx : a.eval x = .slice (some ⟨g, 0, none⟩) 1 1)
    (h0 : w.cell? ⟨g, 0, none⟩ = some (.int .i64 (V n))) (h1 : w.cell? ⟨g, 1, none⟩ = some (.int .u64 (K n : Nat))) (hn : n ≤ 1000000) (hbase : base ≤ w.heap.size)
    (h : ∀ v' w', OwnT w' base v' (n + 1) V K → Below base w w' → K' (a.put o.dst v') w') : o.wp Tryd.prog a w K' Q := by
  obtain ⟨v', w', hr, h3, h4⟩ := run_app1T w o.type base v n V K hown g h0 h1 hn hbase
  unfold Oper.wp execOp
  simp only [ho, resolve, invoke, builtin, Sem.run_bind, Sem.run_pure, Result.andThen_ok, List.map_toArray, List.map_cons, List.map_nil, hs, hx, hr]
  exact h v' w' h3 (hown.grown h4 hbase)
theorem wpList_app1T {ops : Array Oper} {rest : List Oper} {o : Oper} {a : Act} {w : World} {Q : Exit → Act → World → Prop} (hgd : o.guard = none) (s x : Operand)
    (ho : o.op = .call { callee := .builtin .append, args := #[s, x], argTypes := #[31, 31] }) (base : Nat) (v : Value) (n : Nat) (V : Nat → Int) (K : Nat → Nat) (hs : a.eval s = v) (hown : OwnT w base v n V K) (g : Nat) (hx : a.eval x = .slice (some ⟨g, 0, none⟩) 1 1)
    (h0 : w.cell? ⟨g, 0, none⟩ = some (.int .i64 (V n))) (h1 : w.cell? ⟨g, 1, none⟩ = some (.int .u64 (K n : Nat))) (hn : n ≤ 1000000) (hbase : base ≤ w.heap.size)
    (h : ∀ v' w', OwnT w' base v' (n + 1) V K → Below base w w' → wpList Tryd.prog ops Q rest (a.put o.dst v') w') : wpList Tryd.prog ops Q (o :: rest) a w := by
  refine wpList_plain hgd fun K hK => ?_
  exact wp_app1T s x ho base v n V _ hs hown g hx h0 h1 hn hbase fun v' w' h1 h2 => hK _ _ (h v' w' h1 h2)
/-- append of a list onto an empty one: a copy of one's own. -/
theorem wpList_copyT {ops : Array Oper} {rest : List Oper} {o : Oper} {a : Act} {w : World} {Q : Exit → Act → World → Prop} (hgd : o.guard = none) (s x : Operand)
    (ho : o.op = .call { callee := .builtin .append, args := #[s, x], argTypes := #[31, 31] }) (base b0 : Nat) (hs : a.eval s = .slice (some ⟨b0, 0, none⟩) 0 0)
    (hown0 : w.ownsRow base 46 2 (.slice (some ⟨b0, 0, none⟩) 0 0) 0 []) (hbase : base ≤ w.heap.size) (B : Nat) (ad : Option Addr) (n c : Nat) (V : Nat → Int) (K : Nat → Nat) (hx : a.eval x = .slice ad n c) (hS : TrmsAt B w ad n V K) (hn : n ≤ 1000000)
    (h : ∀ g cap w', OwnT w' base (.slice (some ⟨g, 0, none⟩) n cap) n V K → Below base w w' → wpList Tryd.prog ops Q rest (a.put o.dst (.slice (some ⟨g, 0, none⟩) n cap)) w') : wpList Tryd.prog ops Q (o :: rest) a w := by
  obtain ⟨i0, hi, hz1, hz2, hz0⟩ := trmInfo
  by_cases h0 : n = 0
  · subst h0
    have src : Go.Src Tryd.prog i0.size 31 (.slice ad 0 c) 0 [] w := by
      cases ad with
      | none => exact Go.Src.ofNil w Tryd.underlying31 c
      | some a => exact Go.Src.ofSlice w Tryd.underlying31 a 0 c [] (by simp) (fun j u h => by simp at h) (fun u h => by cases h)
    have hr := run_append_room_src w 31 31 o.type 46 i0 Tryd.underlying31 hi b0 0 0 0 (.slice ad 0 c) 0 _ src (by omega) (fun j h => by simp at h) (fun j h => by simp at h)
    refine wpList_plain hgd fun K' hK => ?_
    unfold Oper.wp execOp
    simp only [ho, resolve, invoke, builtin, Sem.run_bind, Sem.run_pure, Result.andThen_ok, List.map_toArray, List.map_cons, List.map_nil, hs, hx, hr]
    exact hK _ _ (h b0 0 w hown0 (Below.refl _ _))
  · rcases hS with h1 | ⟨b, off, rfl, hl, hB⟩
    · exact absurd h1 h0
    refine wpList_append_lies _ hgd s x 31 ho base 46 i0 _ 2 16 Tryd.underlying31 hi hz0 hz1 hz2 rfl (by decide) _ 0 [] hs hown0 ⟨b, off, none⟩ n c (tals V K n) hx (by rw [tals_length]) (tals_lie hB) (tals_one V K n) (by omega) (by unfold maxLen; omega) (by omega) hbase w.heap.size rfl ?_
    intro g cap w' hown hg _ _
    rw [Nat.zero_add, List.nil_append] at hown
    rw [Nat.zero_add]
    exact h g cap w' hown ((Below.refl base w).grown hg hbase (fun k hk => (hown0.lt k hk).1))

/-- A list of one's own, whatever it holds. -/
def OwnX (w : World) (base : Nat) (v : Value) (n : Nat) : Prop := ∃ xs, w.ownsRow base 46 2 v n xs
theorem OwnT.any {w : World} {base : Nat} {v : Value} {n : Nat} {V : Nat → Int} {K : Nat → Nat} (h : OwnT w base v n V K) : OwnX w base v n := ⟨_, h⟩
theorem OwnX.on {w w1 : World} {base : Nat} {v : Value} {n : Nat} (h : OwnX w base v n) (hb : Below w.heap.size w w1) : OwnX w1 base v n := by
  obtain ⟨xs, h⟩ := h
  exact ⟨xs, own_below h hb fun k hk => (World.ownsRow.lt h k hk).2⟩
/-- A store into it: what stands there, that it may be written, what holds behind the store. -/
theorem OwnX.form {w : World} {base : Nat} {v : Value} {n : Nat} (h : OwnX w base v n) (hn : 0 < n) : ∃ g cap, v = .slice (some ⟨g, 0, none⟩) n cap ∧ base ≤ g ∧ g < w.heap.size := by
  obtain ⟨xs, h⟩ := h
  rcases h.2 with ⟨_, h0⟩ | ⟨g, cap, cur, rfl, hb, _⟩
  · omega
  · exact ⟨g, cap, rfl, hb, (World.ownsRow.lt h g rfl).2⟩
theorem OwnX.cells {w : World} {base g n cap : Nat} (h : OwnX w base (.slice (some ⟨g, 0, none⟩) n cap) n) (i : Nat) (hi : i < n) :
    (∃ x y, w.cell? ⟨g, 0 + i * 2, none⟩ = some x ∧ w.cell? ⟨g, 0 + i * 2 + 1, none⟩ = some y) ∧ w.frozen? ⟨g, 0 + i * 2, none⟩ = false ∧ w.frozen? ⟨g, 0 + i * 2 + 1, none⟩ = false ∧
      ∀ x y, OwnX ((w.setCell ⟨g, 0 + i * 2, none⟩ x).setCell ⟨g, 0 + i * 2 + 1, none⟩ y) base (.slice (some ⟨g, 0, none⟩) n cap) n := by
  obtain ⟨xs, h⟩ := h
  have hl : xs.length = n * 2 := h.1
  refine ⟨⟨xs[i * 2]'(by omega), xs[i * 2 + 1]'(by omega), ?_, ?_⟩, ?_, ?_, fun x y => ?_⟩
  · have := World.ownsRow.cells h (g := g) rfl (i * 2) _ (List.getElem?_eq_getElem (by omega))
    rw [addr_add] at this
    exact this
  · have := World.ownsRow.cells h (g := g) rfl (i * 2 + 1) _ (List.getElem?_eq_getElem (by omega))
    rw [addr_add] at this
    rw [Nat.add_assoc]
    exact this
  · rw [Nat.zero_add]; exact World.ownsRow.frozenAt h _
  · rw [Nat.zero_add]; exact World.ownsRow.frozenAt h _
  · rw [Nat.zero_add]
    have h1 := (World.ownsRow.stored h (i * 2) x).1
    exact ⟨_, (World.ownsRow.stored h1 (i * 2 + 1) y).1⟩
end Go.Proofs.YtckjojmphdoghaaDoor

namespace Go.Proofs.YtckjojmphdoghaaDoor
open Go.RowKit Go.Proofs
set_option linter.unusedVariables false
set_option linter.unusedSimpArgs false

/-- All factors of a variable together, of a list's first i terms. -/
def ksumN (L : Lst) (v : Int) : Nat → Fin Ob.RE
  | 0 => 0
  | i + 1 => ksumN L v i + (if L.V i = v then Ob.toG (L.K i) else 0)
def ksum (L : Lst) (v : Int) : Fin Ob.RE := ksumN L v L.n
/-- The first n values of f together. -/
def sumV (f : Nat → Fin Ob.RE) : Nat → Fin Ob.RE
  | 0 => 0
  | n + 1 => sumV f n + f n
theorem sumV_congr {f g : Nat → Fin Ob.RE} : ∀ {n : Nat}, (∀ i, i < n → f i = g i) → sumV f n = sumV g n
  | 0, _ => rfl
  | n + 1, h => by show sumV f n + f n = sumV g n + g n; rw [sumV_congr fun i hi => h i (by omega), h n (by omega)]
theorem sumV_add (f g : Nat → Fin Ob.RE) : ∀ n, sumV (fun i => f i + g i) n = sumV f n + sumV g n
  | 0 => by show (0 : Fin Ob.RE) = 0 + 0; grobner
  | n + 1 => by
    show sumV (fun i => f i + g i) n + (f n + g n) = sumV f n + f n + (sumV g n + g n)
    rw [sumV_add f g n]
    generalize sumV f n = a
    generalize sumV g n = b
    generalize f n = c
    generalize g n = d
    grobner
theorem sumV_zero : ∀ n, sumV (fun _ => (0 : Fin Ob.RE)) n = 0
  | 0 => rfl
  | n + 1 => by show sumV (fun _ => (0 : Fin Ob.RE)) n + 0 = 0; rw [sumV_zero n]; grobner
/-- Just one of them isn't 0. -/
theorem sumV_one (a : Fin Ob.RE) (v : Int) : ∀ n : Nat, sumV (fun i => if v = (i : Int) then a else 0) n = if 0 ≤ v ∧ v < (n : Int) then a else 0
  | 0 => by rw [if_neg (by omega)]; rfl
  | n + 1 => by
    show sumV (fun i => if v = (i : Int) then a else 0) n + (if v = (n : Int) then a else 0) = _
    rw [sumV_one a v n]
    by_cases h1 : v = (n : Int)
    · rw [if_neg (by omega), if_pos h1, if_pos (by omega)]; grobner
    · by_cases h2 : 0 ≤ v ∧ v < (n : Int)
      · rw [if_pos h2, if_neg h1, if_pos (by omega)]; grobner
      · rw [if_neg h2, if_neg h1, if_neg (by omega)]; grobner
/-- A list's value, variable by variable. -/
theorem valN_ksum (L : Lst) (n : Nat) (x : Nat → Nat) : ∀ k, valN L n x k = sumV (fun v => ksumN L v k * Ob.toG (x v)) n
  | 0 => by
    show (0 : Fin Ob.RE) = sumV (fun v => 0 * Ob.toG (x v)) n
    rw [sumV_congr (g := fun _ => 0) fun i _ => ?_, sumV_zero]
    generalize Ob.toG (x i) = t
    grobner
  | k + 1 => by
    show valN L n x k + termG L n x k = sumV (fun v => (ksumN L v k + (if L.V k = (v : Int) then Ob.toG (L.K k) else 0)) * Ob.toG (x v)) n
    have e : sumV (fun v => (ksumN L v k + (if L.V k = (v : Int) then Ob.toG (L.K k) else 0)) * Ob.toG (x v)) n = sumV (fun v => ksumN L v k * Ob.toG (x v)) n + sumV (fun v => if L.V k = (v : Int) then Ob.toG (L.K k) * Ob.toG (x (L.V k).toNat) else 0) n := by
      rw [← sumV_add]
      refine sumV_congr fun v _ => ?_
      by_cases h : L.V k = (v : Int)
      · rw [if_pos h, if_pos h, h, Int.toNat_natCast]
        generalize ksumN L (v : Int) k = a
        generalize Ob.toG (L.K k) = b
        generalize Ob.toG (x v) = c
        grobner
      · rw [if_neg h, if_neg h]
        generalize ksumN L (v : Int) k = a
        generalize Ob.toG (x v) = c
        grobner
    rw [e, valN_ksum L n x k, sumV_one]
    rfl
theorem valL_ksum (L : Lst) (n : Nat) (x : Nat → Nat) : valL L n x = sumV (fun v => ksum L v * Ob.toG (x v)) n := valN_ksum L n x L.n
/-- Two lists whose factors are the same together have one value. -/
theorem valL_of {L O : Lst} (h : ∀ v : Int, 0 ≤ v → ksum O v = ksum L v) (n : Nat) (x : Nat → Nat) : valL O n x = valL L n x := by
  rw [valL_ksum, valL_ksum]
  exact sumV_congr fun v _ => by rw [h v (by omega)]

/-- What makes a list the sum of another. -/
structure IsSum (L O : Lst) : Prop where
  pos : ∀ i, i < O.n → 0 ≤ O.V i
  rise : ∀ i j, i < j → j < O.n → O.V i < O.V j
  nz : ∀ i, i < O.n → O.K i ≠ 0 ∧ O.K i < 288230376287764481
  coef : ∀ i, i < O.n → Ob.toG (O.K i) = ksum L (O.V i)
  all : ∀ v : Int, 0 ≤ v → ksum L v ≠ 0 → ∃ i, i < O.n ∧ O.V i = v
theorem toG_ne {k : Nat} (h : k ≠ 0 ∧ k < 288230376287764481) : Ob.toG k ≠ 0 := fun e => by
  have : (Ob.toG k).val = 0 := by rw [e]; rfl
  rw [Ob.toG_val] at this
  exact h.1 ((Nat.mod_eq_of_lt (show k < Ob.RE from h.2)).symm.trans this)
theorem toG_inj {a b : Nat} (ha : a < 288230376287764481) (hb : b < 288230376287764481) (h : Ob.toG a = Ob.toG b) : a = b := by
  have : (Ob.toG a).val = (Ob.toG b).val := by rw [h]
  rw [Ob.toG_val, Ob.toG_val] at this
  rwa [Nat.mod_eq_of_lt (show a < Ob.RE from ha), Nat.mod_eq_of_lt (show b < Ob.RE from hb)] at this
theorem IsSum.inj {L O : Lst} (h : IsSum L O) {i j : Nat} (hi : i < O.n) (hj : j < O.n) (e : O.V i = O.V j) : i = j := by
  rcases Nat.lt_trichotomy i j with h1 | h1 | h1
  · have := h.rise i j h1 hj; omega
  · exact h1
  · have := h.rise j i h1 hi; omega
theorem IsSum.le {L O : Lst} (h : IsSum L O) {i j : Nat} (hij : i ≤ j) (hj : j < O.n) : O.V i ≤ O.V j := by
  rcases Nat.lt_or_ge i j with h1 | h1
  · have := h.rise i j h1 hj; omega
  · obtain rfl : i = j := by omega
    exact Int.le_refl _
/-- The place of a sum's variable in another sum of the same list isn't ahead of its own. -/
theorem IsSum.place {L O P : Lst} (h : IsSum L O) (k : IsSum L P) (i : Nat) (hi : i < O.n) (ih : ∀ j, j < i → j < P.n ∧ O.V j = P.V j) : ∃ j, i ≤ j ∧ j < P.n ∧ P.V j = O.V i := by
  obtain ⟨j, hj, e⟩ := k.all (O.V i) (h.pos i hi) (by rw [← h.coef i hi]; exact toG_ne (h.nz i hi))
  rcases Nat.lt_or_ge j i with h1 | h1
  · have h2 := h.rise j i h1 hi
    have h3 := (ih j h1).2
    omega
  · exact ⟨j, h1, hj, e⟩
theorem IsSum.same_at {L O P : Lst} (h : IsSum L O) (k : IsSum L P) : ∀ i, (i < O.n ∨ i < P.n) → i < O.n ∧ i < P.n ∧ O.V i = P.V i := by
  intro i
  induction i using Nat.strongRecOn with
  | _ i ih =>
    intro hi
    have key : ∀ {O P : Lst}, IsSum L O → IsSum L P → (∀ j, j < i → (j < O.n ∨ j < P.n) → j < O.n ∧ j < P.n ∧ O.V j = P.V j) → i < O.n → i < P.n ∧ P.V i ≤ O.V i := by
      intro O P h k ih hi
      obtain ⟨j, h1, h2, h3⟩ := h.place k i hi fun j hj => (ih j hj (Or.inl (by omega))).2
      exact ⟨by omega, by rw [← h3]; exact k.le h1 h2⟩
    have ih' : ∀ j, j < i → (j < P.n ∨ j < O.n) → j < P.n ∧ j < O.n ∧ P.V j = O.V j := fun j hj hh => by
      obtain ⟨a, b, c⟩ := ih j hj (hh.symm)
      exact ⟨b, a, c.symm⟩
    rcases hi with hi | hi
    · obtain ⟨h1, h2⟩ := key h k ih hi
      obtain ⟨_, h4⟩ := key k h ih' h1
      exact ⟨hi, h1, by omega⟩
    · obtain ⟨h1, h2⟩ := key k h ih' hi
      obtain ⟨_, h4⟩ := key h k ih h1
      exact ⟨h1, hi, by omega⟩
/-- There is just one sum of a list. -/
theorem IsSum.one {L O P : Lst} (h : IsSum L O) (k : IsSum L P) : O.n = P.n ∧ ∀ i, i < O.n → O.V i = P.V i ∧ O.K i = P.K i := by
  have hn : O.n = P.n := by
    rcases Nat.lt_trichotomy O.n P.n with h1 | h1 | h1
    · have := (h.same_at k O.n (Or.inr h1)).1; omega
    · exact h1
    · have := (h.same_at k P.n (Or.inl h1)).2.1; omega
  refine ⟨hn, fun i hi => ?_⟩
  obtain ⟨_, h2, h3⟩ := h.same_at k i (Or.inl hi)
  refine ⟨h3, toG_inj (h.nz i hi).2 (k.nz i h2).2 ?_⟩
  rw [h.coef i hi, k.coef i h2, h3]
theorem ksumN_off {O : Lst} {v : Int} : ∀ {k : Nat}, (∀ i, i < k → O.V i ≠ v) → ksumN O v k = 0
  | 0, _ => rfl
  | k + 1, h => by
    show ksumN O v k + (if O.V k = v then Ob.toG (O.K k) else 0) = 0
    rw [ksumN_off fun i hi => h i (by omega), if_neg (h k (by omega))]
    grobner
theorem ksumN_on {O : Lst} {v : Int} {i : Nat} (hv : O.V i = v) : ∀ {k : Nat}, i < k → (∀ j, j < k → O.V j = v → j = i) → ksumN O v k = Ob.toG (O.K i)
  | k + 1, hi, h => by
    show ksumN O v k + (if O.V k = v then Ob.toG (O.K k) else 0) = _
    rcases Nat.lt_or_ge i k with h1 | h1
    · rw [ksumN_on hv h1 fun j hj => h j (by omega), if_neg fun e => by have := h k (by omega) e; omega]
      generalize Ob.toG (O.K i) = t
      grobner
    · obtain rfl : i = k := by omega
      rw [ksumN_off fun j hj e => by have := h j (by omega) e; omega, if_pos hv]
      generalize Ob.toG (O.K i) = t
      grobner
theorem IsSum.ksum {L O : Lst} (h : IsSum L O) (v : Int) (hv : 0 ≤ v) : ksum O v = ksum L v := by
  by_cases hz : Go.Proofs.YtckjojmphdoghaaDoor.ksum L v = 0
  · rw [hz]
    refine ksumN_off fun i hi e => ?_
    have := h.coef i hi
    rw [e, hz] at this
    exact toG_ne (h.nz i hi) this
  · obtain ⟨i, hi, e⟩ := h.all v hv hz
    show ksumN O v O.n = _
    rw [ksumN_on e hi fun j hj ej => h.inj hj hi (ej.trans e.symm), h.coef i hi, e]
/-- A sum has its list's value. -/
theorem IsSum.val {L O : Lst} (h : IsSum L O) (n : Nat) (x : Nat → Nat) : valL O n x = valL L n x := valL_of (fun v hv => h.ksum v hv) n x
end Go.Proofs.YtckjojmphdoghaaDoor

namespace Go.Proofs.YtckjojmphdoghaaDoor
open Go.RowKit Go.Proofs
set_option linter.unusedVariables false
set_option linter.unusedSimpArgs false

/-- The least variable above last among a list's first k, or -1. -/
def NextIs (L : Lst) (last : Int) (k : Nat) (v : Int) : Prop := (v = -1 ∧ ∀ i, i < k → L.V i ≤ last) ∨ (last < v ∧ (∃ i, i < k ∧ L.V i = v) ∧ ∀ i, i < k → last < L.V i → v ≤ L.V i)
theorem NextIs.zero (L : Lst) (last : Int) : NextIs L last 0 (-1) := Or.inl ⟨rfl, fun i hi => by omega⟩
/-- A variable that isn't above last. -/
theorem NextIs.low {L : Lst} {last v : Int} {k : Nat} (h : NextIs L last k v) (hk : L.V k ≤ last) : NextIs L last (k + 1) v := by
  rcases h with ⟨h1, h2⟩ | ⟨h1, ⟨i, h2, h3⟩, h4⟩
  · exact Or.inl ⟨h1, fun j hj => by
      rcases Nat.lt_or_ge j k with h | h
      · exact h2 j h
      · obtain rfl : j = k := by omega
        exact hk⟩
  · exact Or.inr ⟨h1, ⟨i, by omega, h3⟩, fun j hj hl => by
      rcases Nat.lt_or_ge j k with h | h
      · exact h4 j h hl
      · obtain rfl : j = k := by omega
        omega⟩
/-- One that isn't below the least so far. -/
theorem NextIs.high {L : Lst} {last v : Int} {k : Nat} (h : NextIs L last k v) (hv : ¬ v < 0) (hk : v ≤ L.V k) : NextIs L last (k + 1) v := by
  rcases h with ⟨h1, h2⟩ | ⟨h1, ⟨i, h2, h3⟩, h4⟩
  · omega
  · exact Or.inr ⟨h1, ⟨i, by omega, h3⟩, fun j hj hl => by
      rcases Nat.lt_or_ge j k with h | h
      · exact h4 j h hl
      · obtain rfl : j = k := by omega
        exact hk⟩
/-- One that takes its place. -/
theorem NextIs.new {L : Lst} {last v : Int} {k : Nat} (hlast : -1 ≤ last) (h : NextIs L last k v) (hl : last < L.V k) (hk : v < 0 ∨ L.V k < v) : NextIs L last (k + 1) (L.V k) := by
  refine Or.inr ⟨hl, ⟨k, by omega, rfl⟩, fun j hj hjl => ?_⟩
  rcases Nat.lt_or_ge j k with h1 | h1
  · rcases h with ⟨h2, h3⟩ | ⟨h2, _, h4⟩
    · have := h3 j h1; omega
    · have := h4 j h1 hjl; omega
  · obtain rfl : j = k := by omega
    exact Int.le_refl _
/-- How many of a list's first k variables are above last. -/
def cntN (L : Lst) (last : Int) : Nat → Nat
  | 0 => 0
  | k + 1 => cntN L last k + (if last < L.V k then 1 else 0)
theorem cntN_le (L : Lst) (last : Int) : ∀ k, cntN L last k ≤ k
  | 0 => Nat.le_refl _
  | k + 1 => by
    show cntN L last k + (if last < L.V k then 1 else 0) ≤ k + 1
    have := cntN_le L last k
    split <;> omega
theorem cntN_mono (L : Lst) {a b : Int} (h : a ≤ b) : ∀ k, cntN L b k ≤ cntN L a k
  | 0 => Nat.le_refl _
  | k + 1 => by
    show cntN L b k + (if b < L.V k then 1 else 0) ≤ cntN L a k + (if a < L.V k then 1 else 0)
    have := cntN_mono L h k
    by_cases h1 : b < L.V k
    · rw [if_pos h1, if_pos (by omega)]; omega
    · rw [if_neg h1]; split <;> omega
theorem cntN_less (L : Lst) {a b : Int} (h : a < b) : ∀ k, (∃ i, i < k ∧ L.V i = b) → cntN L b k + 1 ≤ cntN L a k
  | 0, ⟨i, hi, _⟩ => by omega
  | k + 1, ⟨i, hi, e⟩ => by
    show cntN L b k + (if b < L.V k then 1 else 0) + 1 ≤ cntN L a k + (if a < L.V k then 1 else 0)
    rcases Nat.lt_or_ge i k with h1 | h1
    · have := cntN_less L h k ⟨i, h1, e⟩
      by_cases h2 : b < L.V k
      · rw [if_pos h2, if_pos (by omega)]; omega
      · rw [if_neg h2]; split <;> omega
    · obtain rfl : i = k := by omega
      have := cntN_mono L (Int.le_of_lt h) i
      rw [if_neg (by omega), if_pos (by omega)]
      omega
/-- A sum as far as variable last. -/
structure SumTo (L : Lst) (last : Int) (n : Nat) (V : Nat → Int) (K : Nat → Nat) : Prop where
  low : -1 ≤ last
  pos : ∀ i, i < n → 0 ≤ V i
  le : ∀ i, i < n → V i ≤ last
  rise : ∀ i j, i < j → j < n → V i < V j
  nz : ∀ i, i < n → K i ≠ 0 ∧ K i < 288230376287764481
  coef : ∀ i, i < n → Ob.toG (K i) = ksum L (V i)
  all : ∀ v : Int, 0 ≤ v → v ≤ last → ksum L v ≠ 0 → ∃ i, i < n ∧ V i = v
  few : n + cntN L last L.n ≤ L.n
theorem SumTo.zero (L : Lst) : SumTo L (-1) 0 (fun _ => 0) (fun _ => 0) :=
  ⟨by omega, fun i hi => by omega, fun i hi => by omega, fun i j _ hj => by omega, fun i hi => by omega, fun i hi => by omega, fun v h1 h2 => by omega, by have := cntN_le L (-1) L.n; omega⟩
theorem ksum_gap {L : Lst} {last v next : Int} (h : NextIs L last L.n next) (h1 : last < v) (h2 : v < next) : ksum L v = 0 := by
  refine ksumN_off fun i hi e => ?_
  rcases h with ⟨h3, h4⟩ | ⟨h3, _, h4⟩
  · have := h4 i hi; omega
  · have := h4 i hi (by omega); omega
/-- The next variable's factors are nothing together. -/
theorem SumTo.skip {L : Lst} {last next : Int} {n : Nat} {V : Nat → Int} {K : Nat → Nat} (h : SumTo L last n V K) (hn : NextIs L last L.n next) (hp : ¬ next < 0) (hk : ksum L next = 0) : SumTo L next n V K := by
  rcases hn with ⟨h1, _⟩ | ⟨h1, h2, h3⟩
  · omega
  have hn : NextIs L last L.n next := Or.inr ⟨h1, h2, h3⟩
  refine ⟨by omega, h.pos, fun i hi => by have := h.le i hi; omega, h.rise, h.nz, h.coef, fun v hv hle hne => ?_, ?_⟩
  · by_cases h4 : v ≤ last
    · exact h.all v hv h4 hne
    · by_cases h5 : v = next
      · subst h5; exact absurd hk hne
      · exact absurd (ksum_gap hn (by omega) (by omega)) hne
  · have := cntN_less L h1 L.n h2
    have := h.few
    omega
/-- They are k. -/
def putV (n : Nat) (v : Int) (V : Nat → Int) (i : Nat) : Int := if i = n then v else V i
def putK (n : Nat) (k : Nat) (K : Nat → Nat) (i : Nat) : Nat := if i = n then k else K i
theorem putV_at (n : Nat) (v : Int) (V : Nat → Int) : putV n v V n = v := if_pos rfl
theorem putK_at (n k : Nat) (K : Nat → Nat) : putK n k K n = k := if_pos rfl
theorem putV_lt {n i : Nat} (v : Int) (V : Nat → Int) (h : i < n) : putV n v V i = V i := if_neg (by omega)
theorem putK_lt {n i : Nat} (k : Nat) (K : Nat → Nat) (h : i < n) : putK n k K i = K i := if_neg (by omega)
theorem SumTo.put {L : Lst} {last next : Int} {n k : Nat} {V : Nat → Int} {K : Nat → Nat} (h : SumTo L last n V K) (hn : NextIs L last L.n next) (hp : ¬ next < 0) (hk : (ksum L next).val = k) (hk0 : k ≠ 0) : SumTo L next (n + 1) (putV n next V) (putK n k K) := by
  rcases hn with ⟨h1, _⟩ | ⟨h1, h2, h3⟩
  · omega
  have hn : NextIs L last L.n next := Or.inr ⟨h1, h2, h3⟩
  have hlt : k < 288230376287764481 := by rw [← hk]; exact (ksum L next).isLt
  refine ⟨by have := h.low; omega, fun i hi => ?_, fun i hi => ?_, fun i j hij hj => ?_, fun i hi => ?_, fun i hi => ?_, fun v hv hle hne => ?_, ?_⟩
  · rcases Nat.lt_or_ge i n with h4 | h4
    · rw [putV_lt _ _ h4]; exact h.pos i h4
    · obtain rfl : i = n := by omega
      rw [putV_at]; omega
  · rcases Nat.lt_or_ge i n with h4 | h4
    · rw [putV_lt _ _ h4]; have := h.le i h4; omega
    · obtain rfl : i = n := by omega
      rw [putV_at]; omega
  · rcases Nat.lt_or_ge j n with h4 | h4
    · rw [putV_lt _ _ h4, putV_lt _ _ (by omega)]; exact h.rise i j hij h4
    · obtain rfl : j = n := by omega
      rw [putV_at, putV_lt _ _ hij]
      have := h.le i hij
      omega
  · rcases Nat.lt_or_ge i n with h4 | h4
    · rw [putK_lt _ _ h4]; exact h.nz i h4
    · obtain rfl : i = n := by omega
      rw [putK_at]; exact ⟨hk0, hlt⟩
  · rcases Nat.lt_or_ge i n with h4 | h4
    · rw [putV_lt _ _ h4, putK_lt _ _ h4]; exact h.coef i h4
    · obtain rfl : i = n := by omega
      rw [putV_at, putK_at, ← hk, Ob.toG_of_val]
  · by_cases h4 : v ≤ last
    · obtain ⟨i, hi, e⟩ := h.all v hv h4 hne
      exact ⟨i, by omega, by rw [putV_lt _ _ hi]; exact e⟩
    · by_cases h5 : v = next
      · exact ⟨n, by omega, by rw [putV_at, h5]⟩
      · exact absurd (ksum_gap hn (by omega) (by omega)) hne
  · have := cntN_less L h1 L.n h2
    have := h.few
    omega
/-- No variable is above last: it is the sum. -/
theorem SumTo.done {L : Lst} {last : Int} {n : Nat} {V : Nat → Int} {K : Nat → Nat} (h : SumTo L last n V K) (hn : NextIs L last L.n (-1)) (a : Option Addr) (c : Nat) : IsSum L ⟨a, n, c, V, K⟩ where
  pos := h.pos
  rise := h.rise
  nz := h.nz
  coef := h.coef
  all := fun v hv hne => by
    rcases hn with ⟨_, h2⟩ | ⟨h1, _⟩
    · refine h.all v hv ?_ hne
      refine Decidable.byContradiction fun hlt => hne (ksumN_off fun i hi e => ?_)
      have := h2 i hi
      omega
    · have := h.low; omega
theorem SumTo.n_le {L : Lst} {last : Int} {n : Nat} {V : Nat → Int} {K : Nat → Nat} (h : SumTo L last n V K) : n ≤ L.n := by have := h.few; omega
/-- A sum is a list of words. -/
theorem IsSum.ok {L O : Lst} (h : IsSum L O) (hL : L.Ok) (h1 : O.n ≤ O.c) (h2 : O.c ≤ 9223372036854775807) : ∃ P : Lst, P.Ok ∧ IsSum L P ∧ P.ad = O.ad ∧ P.n = O.n ∧ P.c = O.c ∧ ∀ i, i < O.n → P.V i = O.V i ∧ P.K i = O.K i := by
  have hb : ∀ i, i < O.n → O.V i < 9223372036854775808 := fun i hi => by
    have hne : Go.Proofs.YtckjojmphdoghaaDoor.ksum L (O.V i) ≠ 0 := by rw [← h.coef i hi]; exact toG_ne (h.nz i hi)
    refine Decidable.byContradiction fun hge => hne (ksumN_off fun j hj e => ?_)
    have := hL.V2 j
    omega
  refine ⟨⟨O.ad, O.n, O.c, fun i => if i < O.n then O.V i else 0, fun i => if i < O.n then O.K i else 0⟩, ⟨fun i => ?_, fun i => ?_, fun i => ?_, h1, h2⟩, ?_, rfl, rfl, rfl, fun i hi => ⟨if_pos hi, if_pos hi⟩⟩
  · show _ ≤ (if i < O.n then O.V i else 0)
    split
    · have := h.pos i (by assumption); omega
    · omega
  · show (if i < O.n then O.V i else 0) < _
    split
    · exact hb i (by assumption)
    · omega
  · show (if i < O.n then O.K i else 0) < _
    split
    · have := (h.nz i (by assumption)).2; omega
    · omega
  · have eV : ∀ i, i < O.n → (if i < O.n then O.V i else 0) = O.V i := fun i hi => if_pos hi
    have eK : ∀ i, i < O.n → (if i < O.n then O.K i else 0) = O.K i := fun i hi => if_pos hi
    refine ⟨fun i hi => ?_, fun i j hij hj => ?_, fun i hi => ?_, fun i hi => ?_, fun v hv hne => ?_⟩
    · show 0 ≤ (if i < O.n then O.V i else 0); rw [eV i hi]; exact h.pos i hi
    · show (if i < O.n then O.V i else 0) < (if j < O.n then O.V j else 0); rw [eV j hj, eV i (Nat.lt_trans hij hj)]; exact h.rise i j hij hj
    · show (if i < O.n then O.K i else 0) ≠ 0 ∧ (if i < O.n then O.K i else 0) < _; rw [eK i hi]; exact h.nz i hi
    · show Ob.toG (if i < O.n then O.K i else 0) = Go.Proofs.YtckjojmphdoghaaDoor.ksum L (if i < O.n then O.V i else 0); rw [eK i hi, eV i hi]; exact h.coef i hi
    · obtain ⟨i, hi, e⟩ := h.all v hv hne
      exact ⟨i, hi, (eV i hi).trans e⟩
end Go.Proofs.YtckjojmphdoghaaDoor

namespace Go.Proofs.YtckjojmphdoghaaDoor
open Go.RowKit Go.Proofs
set_option linter.unusedVariables false
set_option linter.unusedSimpArgs false
attribute [local go_sem ↓] Go.wp_at_zero Go.wp_at_succ
/-- A list that is a sum of another, in memory of its own. -/
def SumRes (L : Lst) (W w' : World) (v : Value) : Prop := ∃ n V K, OwnT w' W.heap.size v n V K ∧ IsSum L ⟨none, n, 0, V, K⟩ ∧ n ≤ L.n
/-- As a list. -/
theorem SumRes.list {L : Lst} {W w' : World} {v : Value} (h : SumRes L W w' v) (hL : L.Ok) : ∃ P : Lst, P.Ok ∧ IsSum L P ∧ v = P.val ∧ P.At w'.heap.size w' ∧ P.n ≤ L.n ∧ OwnX w' W.heap.size v P.n := by
  obtain ⟨n, V, K, h1, h2, h3⟩ := h
  obtain ⟨a, c, rfl, h4, h5, h6⟩ := h1.trms
  have h2' : IsSum L ⟨a, n, c, V, K⟩ := ⟨h2.pos, h2.rise, h2.nz, h2.coef, h2.all⟩
  obtain ⟨P, p1, p2, p3, p4, p5, p6⟩ := h2'.ok hL h4 (by unfold maxLen at h5; omega)
  have p3 : P.ad = a := p3
  have p4 : P.n = n := p4
  have p5 : P.c = c := p5
  refine ⟨P, p1, p2, by unfold Lst.val; rw [p3, p4, p5], ?_, by omega, by rw [p4]; exact h1.any⟩
  unfold Lst.At
  rw [p3, p4]
  rcases h6 with h | ⟨b, off, rfl, lb, t⟩
  · exact Or.inl h
  · exact Or.inr ⟨b, off, rfl, lb, t.lt, fun i hi => by rw [(p6 i hi).1]; exact t.c0 i hi, fun i hi => by rw [(p6 i hi).2]; exact t.c1 i hi⟩
theorem trm_one {w : World} {x : Int} {k : Nat} {t : TypeId} : (w.alloc (.cells #[.int .i64 x, .int .u64 (k : Nat)] t)).cell? ⟨w.heap.size, 0, none⟩ = some (.int .i64 x) ∧ (w.alloc (.cells #[.int .i64 x, .int .u64 (k : Nat)] t)).cell? ⟨w.heap.size, 1, none⟩ = some (.int .u64 (k : Nat)) := by
  constructor <;> simp [go_sem]
set_option maxRecDepth 8000 in
set_option maxHeartbeats 16000000 in
theorem vsumW (L : Lst) (hL : L.Ok) (hLn : L.n ≤ 1000000) (w : World) (hA : L.At w.heap.size w) :
    Calls Tryd.prog 16 #[L.val] w fun e w' => ∃ v, e = .returned v ∧ SumRes L w w' v ∧ Below w.heap.size w w' := by
  have hA' : Hid (L.At w.heap.size w) := hA
  have hL' : Hid L.Ok := hL
  clear hA hL
  unfold Lst.val
  go_enter Tryd.func16, Tryd.ntmps16
  go_wp2
  go_loopw [3, 4] (fun so sl wr => ∃ (last : Int) (n : Nat) (V : Nat → Int) (K : Nat → Nat) (o : Value), o = so ∧ sl = .int .i64 last ∧ last < 9223372036854775808 ∧ Below w.heap.size w wr ∧ Hid (OwnT wr w.heap.size o n V K) ∧ Hid (SumTo L last n V K)) (fun so sl _ => cntN L (intOf sl) L.n)
  case atStart => exact ⟨-1, 0, _, _, _, rfl, rfl, by decide, by (repeat' (first | (with_reducible first | exact Below.refl _ _ | assumption | refine Below.alloc ?_ ?_ _ | refine Below.drew ?_ | refine below_drewN ?_ _ | refine Below.setCell ?_ ?_ _ | refine below_via (by with_reducible assumption) ?_ ?_) | omega | (simp only [szs]; omega) | (simp only [szs] at *; omega))), OwnT.nil _ _ _ _, SumTo.zero L⟩
  case round =>
    obtain ⟨last, n, V, K, o, rfl, rfl, hlast, hB, hown, hS⟩ := hrel
    have hlow := hS.out.low
    have hlow' : Hid (-1 ≤ last) := hlow
    go_wp2
    go_loopw [5, 6] (fun sx si wi => ∃ (i : Nat) (v : Int), i ≤ L.n ∧ sx = .int .i64 v ∧ si = .int .i64 i ∧ v < 9223372036854775808 ∧ -1 ≤ v ∧ wi = wr ∧ Hid (NextIs L last i v)) (fun sx si _ => L.n - (intOf si).toNat)
    case atStart => exact ⟨0, -1, by omega, rfl, rfl, by decide, by decide, rfl, NextIs.zero L last⟩
    case round =>
      obtain ⟨i, v, hi, rfl, rfl, hv, hv1, rfl, hN⟩ := hrel
      by_cases hlt : i < L.n
      · have hlt' : (i : Int) < (L.n : Int) := by omega
        rcases hA'.out with hz | ⟨b, off, hb, lb, tb⟩
        · omega
        have c0 := (tb.below hB lb).c0 i hlt
        have hV1 := hL'.out.V1 i
        have hV2 := hL'.out.V2 i
        rw [hb]
        obtain ⟨x, hx⟩ : ∃ x, Hid (L.V i = x) := ⟨_, rfl⟩
        rw [hx.out] at c0 hV1 hV2
        clear tb lb hb
        by_cases h1 : last < x
        · by_cases h2 : v < 0
          · have hN2 : Hid (NextIs L last (i + 1) x) := by have := NextIs.new hlow'.out hN.out (show last < L.V i by rw [hx.out]; exact h1) (Or.inl h2); rw [hx.out] at this; exact this
            go_wp2
            go_roundw
            case rel => exact ⟨i + 1, x, by omega, by first | rfl | trivial, by go_num, hV2, by omega, by first | rfl | trivial, hN2⟩
            case measure => first | (simp [intOf]; done) | (simp [intOf]; omega)
          · by_cases h3 : x < v
            · have hN2 : Hid (NextIs L last (i + 1) x) := by have := NextIs.new hlow'.out hN.out (show last < L.V i by rw [hx.out]; exact h1) (Or.inr (by rw [hx.out]; exact h3)); rw [hx.out] at this; exact this
              go_wp2
              go_roundw
              case rel => exact ⟨i + 1, x, by omega, by first | rfl | trivial, by go_num, hV2, by omega, by first | rfl | trivial, hN2⟩
              case measure => first | (simp [intOf]; done) | (simp [intOf]; omega)
            · have hN2 : Hid (NextIs L last (i + 1) v) := hN.out.high h2 (by rw [hx.out]; omega)
              go_wp2
              go_roundw
              case rel => exact ⟨i + 1, v, by omega, by first | rfl | trivial, by go_num, hv, hv1, by first | rfl | trivial, hN2⟩
              case measure => first | (simp [intOf]; done) | (simp [intOf]; omega)
        · have hN2 : Hid (NextIs L last (i + 1) v) := hN.out.low (by rw [hx.out]; omega)
          go_wp2
          go_roundw
          case rel => exact ⟨i + 1, v, by omega, by first | rfl | trivial, by go_num, hv, hv1, by first | rfl | trivial, hN2⟩
          case measure => first | (simp [intOf]; done) | (simp [intOf]; omega)
      · obtain rfl : i = L.n := by omega
        have hlt' : ¬ (L.n : Int) < (L.n : Int) := by omega
        by_cases h0 : v < 0
        · obtain rfl : v = -1 := by omega
          have hd : Hid (IsSum L ⟨none, n, 0, V, K⟩) := hS.out.done hN.out none 0
          have hle : n ≤ L.n := hS.out.n_le
          go_wp2
          go_ret
          exact ⟨_, rfl, ⟨n, V, K, hown.out, hd.out, hle⟩, hB⟩
        · have hN2 : Hid (NextIs L last L.n v) := hN
          have h0' : Hid (¬ v < 0) := h0
          have hless : Hid (cntN L v L.n < cntN L last L.n) := by
            rcases hN.out with ⟨h, _⟩ | ⟨h1, h2, _⟩
            · omega
            · have := cntN_less L h1 L.n h2
              show _ < _
              omega
          clear hN hlow
          go_wp2
          go_loopw [7, 8] (fun sk si wi => ∃ (i k : Nat), i ≤ L.n ∧ sk = .int .u64 k ∧ si = .int .i64 i ∧ wi = wr ∧ Hid ((ksumN L v i).val = k)) (fun _ si _ => L.n - (intOf si).toNat)
          case atStart => exact ⟨0, 0, by omega, rfl, rfl, rfl, rfl⟩
          case round =>
            obtain ⟨i, k, hi, rfl, rfl, rfl, hk⟩ := hrel
            by_cases hlt : i < L.n
            · have hlt2 : (i : Int) < (L.n : Int) := by omega
              rcases hA'.out with hz | ⟨b, off, hb, lb, tb⟩
              · omega
              have c0 := (tb.below hB lb).c0 i hlt
              have c1 := (tb.below hB lb).c1 i hlt
              have hK := hL'.out.K1 i
              rw [hb]
              by_cases h1 : L.V i = v
              · have cp := gplusW k (L.K i) (by rw [← hk.out]; exact Ob.G_word _) hK
                have hk2 : Hid ((ksumN L v (i + 1)).val = (Ob.toG k + Ob.toG (L.K i)).val) := by
                  show (ksumN L v i + (if L.V i = v then Ob.toG (L.K i) else 0)).val = _
                  rw [if_pos h1, ← hk.out, Ob.toG_of_val]
                rw [h1] at c0
                clear h1
                generalize (Ob.toG k + Ob.toG (L.K i)).val = k2 at *
                generalize L.K i = Ki at *
                clear tb lb hb hk
                go_wp2_with (first | (go_at_call 27; first | (with_reducible refine (cp _).mono ?_; rintro e w' ⟨rfl, rfl⟩)))
                go_roundw
                case rel => exact ⟨i + 1, k2, by omega, by first | rfl | trivial, by go_num, by first | rfl | trivial, hk2⟩
                case measure => first | (simp [intOf]; done) | (simp [intOf]; omega)
              · have hk2 : Hid ((ksumN L v (i + 1)).val = k) := by
                  show (ksumN L v i + (if L.V i = v then Ob.toG (L.K i) else 0)).val = k
                  rw [if_neg h1, ← hk.out]
                  refine congrArg Fin.val ?_
                  generalize ksumN L v i = t
                  grobner
                have h1' : (L.V i == v) = false := by rw [beq_eq_false_iff_ne]; exact h1
                generalize L.V i = x at *
                clear tb lb hb hk h1
                go_wp2
                go_roundw
                case rel => exact ⟨i + 1, k, by omega, by first | rfl | trivial, by go_num, by first | rfl | trivial, hk2⟩
                case measure => first | (simp [intOf]; done) | (simp [intOf]; omega)
            · obtain rfl : i = L.n := by omega
              have hlt2 : ¬ (L.n : Int) < (L.n : Int) := by omega
              by_cases hk0 : k = 0
              · subst hk0
                have hS2 : Hid (SumTo L v n V K) := hS.out.skip hN2.out (by have := h0'.out; omega) (Fin.ext hk.out)
                go_wp2
                go_roundw
                case rel => exact ⟨v, n, V, K, _, rfl, by first | rfl | trivial, hv, hB, hown, hS2⟩
                case measure => exact hless.out
              · have hk0' : ((k : Int) == 0) = false := by rw [beq_eq_false_iff_ne]; omega
                have hS2 : Hid (SumTo L v (n + 1) (putV n v V) (putK n k K)) := hS.out.put hN2.out (by have := h0'.out; omega) hk.out hk0
                have hn : n ≤ 1000000 := Nat.le_trans hS.out.n_le hLn
                have hzB := hB.size
                have hown2 : Hid (OwnT (wr.alloc (.cells #[.int .i64 v, .int .u64 (k : Nat)] 46)) w.heap.size o n (putV n v V) (putK n k K)) := (hown.out.congr fun i hi => ⟨(putV_lt v V hi).symm, (putK_lt k K hi).symm⟩).on ((Below.refl _ _).alloc (Nat.le_refl _) _)
                have q0 : Hid ((wr.alloc (.cells #[.int .i64 v, .int .u64 (k : Nat)] 46)).cell? ⟨wr.heap.size, 0, none⟩ = some (.int .i64 (putV n v V n))) := by show _ = _; rw [putV_at]; exact trm_one.1
                have q1 : Hid ((wr.alloc (.cells #[.int .i64 v, .int .u64 (k : Nat)] 46)).cell? ⟨wr.heap.size, 1, none⟩ = some (.int .u64 (putK n k K n : Nat))) := by show _ = _; rw [putK_at]; exact trm_one.2
                clear hS hown hk hk0
                go_wp2_with (at_builtin; refine wpList_app1T rfl _ _ rfl w.heap.size _ n (putV n v V) (putK n k K) rfl hown2.out wr.heap.size rfl q0.out q1.out hn (by simp only [szs]; omega) ?_; intro v' w1 ho hB1)
                have ho' : Hid (OwnT w1 w.heap.size v' (n + 1) (putV n v V) (putK n k K)) := ho
                have hB2 : Below w.heap.size w w1 := below_via hB1 (by (repeat' (first | (with_reducible first | exact Below.refl _ _ | assumption | refine Below.alloc ?_ ?_ _ | refine Below.drew ?_ | refine below_drewN ?_ _ | refine Below.setCell ?_ ?_ _ | refine below_via (by with_reducible assumption) ?_ ?_) | omega | (simp only [szs]; omega) | (simp only [szs] at *; omega)))) (Nat.le_refl _)
                clear ho hB1 q0 q1 hown2
                go_wp2
                go_roundw
                case rel => exact ⟨v, n + 1, _, _, _, rfl, by first | rfl | trivial, hv, hB2, ho', hS2⟩
                case measure => exact hless.out
end Go.Proofs.YtckjojmphdoghaaDoor

namespace Go.Proofs.YtckjojmphdoghaaDoor
open Go.RowKit Go.Proofs
set_option linter.unusedVariables false
set_option linter.unusedSimpArgs false
theorem equalIn_Trm (d : Nat) (w : World) (x y x' y' : Int) : (Op.equalIn (d + 2) 46 (.agg #[.int .i64 x, .int .u64 y]) (.agg #[.int .i64 x', .int .u64 y'])).run Tryd.prog w = .ok (x == x' && y == y') w := by
  have hA : ∀ w : World, (isAgg 3).run Tryd.prog w = .ok false w := fun w => by kernel_rfl
  have hB : ∀ w : World, (isAgg 34).run Tryd.prog w = .ok false w := fun w => by kernel_rfl
  have hI : ∀ (w : World) (a b : Int), (Op.equalIn (d + 1) 3 (.int .i64 a) (.int .i64 b)).run Tryd.prog w = .ok (a == b) w := fun w a b => run_equalIn_int w d _ _ .i64 a b Tryd.underlying3
  have hJ : ∀ (w : World) (a b : Int), (Op.equalIn (d + 1) 34 (.int .u64 a) (.int .u64 b)).run Tryd.prog w = .ok (a == b) w := fun w a b => run_equalIn_int w d _ _ .u64 a b Tryd.underlying34
  unfold Op.equalIn
  simp only [Sem.run_bind, run_underlying Tryd.underlying46]
  cases h : (x == x') with
  | true =>
    cases h2 : (y == y') with
    | true => simp [go_sem, hA, hB, hI, hJ, List.range', h, h2]
    | false => simp [go_sem, hA, hB, hI, hJ, List.range', h, h2]
  | false => simp [go_sem, hA, hB, hI, hJ, List.range', h]
theorem equal_Trm (w : World) (x y x' y' : Int) : (Op.equalIn 10000 46 (.agg #[.int .i64 x, .int .u64 y]) (.agg #[.int .i64 x', .int .u64 y'])).run Tryd.prog w = .ok (x == x' && y == y') w := equalIn_Trm 9998 w x y x' y'
end Go.Proofs.YtckjojmphdoghaaDoor

namespace Go.Proofs.YtckjojmphdoghaaDoor
open Go.RowKit Go.Proofs
set_option linter.unusedVariables false
set_option linter.unusedSimpArgs false
attribute [local go_sem ↓] Go.wp_at_zero Go.wp_at_succ

/-- Are the first i terms of two lists the same? -/
def eqT (A B : Lst) (i : Nat) : Bool := (A.V i == B.V i) && ((A.K i : Int) == (B.K i : Int))
def eqN (A B : Lst) : Nat → Bool
  | 0 => true
  | i + 1 => eqN A B i && eqT A B i
def sameB (A B : Lst) : Bool := decide (A.n = B.n) && eqN A B A.n
theorem eqN_not {A B : Lst} {n : Nat} (h : eqT A B n = false) : ∀ {m : Nat}, n < m → eqN A B m = false
  | m + 1, hm => by
    show (eqN A B m && eqT A B m) = false
    rcases Nat.lt_or_ge n m with h2 | h2
    · rw [eqN_not h h2]; rfl
    · obtain rfl : n = m := by omega
      rw [h, Bool.and_false]
set_option maxHeartbeats 4000000 in
theorem vsameW (A B : Lst) (hA : A.Ok) (hB : B.Ok) (w : World) (tA : A.At w.heap.size w) (tB : B.At w.heap.size w) :
    Calls Tryd.prog 15 #[A.val, B.val] w fun e w' => e = .returned (.bool (sameB A B)) ∧ Below w.heap.size w w' := by
  have tA' : Hid (A.At w.heap.size w) := tA
  have tB' : Hid (B.At w.heap.size w) := tB
  have nA : A.n ≤ 9223372036854775807 := Nat.le_trans hA.n1 hA.n2
  obtain ⟨S, hS⟩ : ∃ S, Hid (sameB A B = S) := ⟨_, rfl⟩
  rw [hS.out]
  clear tA tB hA hB
  unfold Lst.val
  by_cases hn : A.n = B.n
  · have hn0 : ((A.n : Int) == (B.n : Int)) = true := by rw [beq_iff_eq]; omega
    have hn1 : ((A.n : Int) != (B.n : Int)) = false := by rw [bne_eq_false_iff_eq]; omega
    have hS2 : Hid (eqN A B A.n = S) := by show _ = _; rw [← hS.out]; unfold sameB; rw [decide_eq_true hn]; rfl
    clear hS
    go_enter Tryd.func15, Tryd.ntmps15
    go_wp2
    go_loopw [5] (fun si wr => ∃ i : Nat, i ≤ A.n ∧ si = .int .i64 i ∧ Below w.heap.size w wr ∧ Hid (eqN A B i = true)) (fun si _ => A.n - (intOf si).toNat)
    case atStart => exact ⟨0, by omega, rfl, by (repeat' (first | (with_reducible first | exact Below.refl _ _ | assumption | refine Below.alloc ?_ ?_ _ | refine Below.drew ?_ | refine below_drewN ?_ _ | refine Below.setCell ?_ ?_ _ | refine below_via (by with_reducible assumption) ?_ ?_) | omega | (simp only [szs]; omega) | (simp only [szs] at *; omega))), rfl⟩
    case round =>
      obtain ⟨i, hi, rfl, hB, hI⟩ := hrel
      by_cases hlt : i < A.n
      · have hlt' : (i : Int) < (A.n : Int) := by omega
        have hlt2 : (i : Int) < (B.n : Int) := by omega
        rcases tA'.out with hz | ⟨ba, oa, ha, la, ta⟩
        · omega
        rcases tB'.out with hz | ⟨bb, ob, hb, lb, tb⟩
        · omega
        have c0 := (ta.below hB la).c0 i hlt
        have c1 := (ta.below hB la).c1 i hlt
        have c2 := (tb.below hB lb).c0 i (by omega)
        have c3 := (tb.below hB lb).c1 i (by omega)
        have he := fun w => equal_Trm w (A.V i) (A.K i) (B.V i) (B.K i)
        have hq : Hid ((A.V i == B.V i && ((A.K i : Int) == (B.K i : Int))) = eqT A B i) := rfl
        rw [hq.out] at he
        rw [ha, hb]
        clear ta tb la lb
        cases h1 : eqT A B i with
        | true =>
          rw [h1] at he
          have hI2 : Hid (eqN A B (i + 1) = true) := by show (eqN A B i && eqT A B i) = true; rw [hI.out, h1]; rfl
          generalize A.V i = Vi at *
          generalize A.K i = Ki at *
          generalize B.V i = Wi at *
          generalize B.K i = Li at *
          clear hq h1
          go_wp2
          go_quiet (fail)
          go_wp2
          go_roundw
          case rel => exact ⟨i + 1, by omega, by go_num, by (repeat' (first | (with_reducible first | exact Below.refl _ _ | assumption | refine Below.alloc ?_ ?_ _ | refine Below.drew ?_ | refine below_drewN ?_ _ | refine Below.setCell ?_ ?_ _ | refine below_via (by with_reducible assumption) ?_ ?_) | omega | (simp only [szs]; omega) | (simp only [szs] at *; omega))), hI2⟩
          case measure => (simp [intOf]; omega)
        | false =>
          rw [h1] at he
          obtain rfl : S = false := by rw [← hS2.out]; exact eqN_not h1 hlt
          generalize A.V i = Vi at *
          generalize A.K i = Ki at *
          generalize B.V i = Wi at *
          generalize B.K i = Li at *
          clear hq h1
          go_wp2
          go_quiet (fail)
          go_wp2
          go_ret
          exact ⟨rfl, by (repeat' (first | (with_reducible first | exact Below.refl _ _ | assumption | refine Below.alloc ?_ ?_ _ | refine Below.drew ?_ | refine below_drewN ?_ _ | refine Below.setCell ?_ ?_ _ | refine below_via (by with_reducible assumption) ?_ ?_) | omega | (simp only [szs]; omega) | (simp only [szs] at *; omega)))⟩
      · have hlt' : ¬ (i : Int) < (A.n : Int) := by omega
        obtain rfl : i = A.n := by omega
        obtain rfl : S = true := hS2.out.symm.trans hI.out
        go_wp2
        go_ret
        exact ⟨rfl, hB⟩
  · have hn0 : ((A.n : Int) == (B.n : Int)) = false := by rw [beq_eq_false_iff_ne]; omega
    have hn1 : ((A.n : Int) != (B.n : Int)) = true := by rw [bne_iff_ne]; omega
    obtain rfl : S = false := by rw [← hS.out]; unfold sameB; rw [decide_eq_false hn]; rfl
    go_enter Tryd.func15, Tryd.ntmps15
    go_wp2
    go_ret
    exact ⟨rfl, by (repeat' (first | (with_reducible first | exact Below.refl _ _ | assumption | refine Below.alloc ?_ ?_ _ | refine Below.drew ?_ | refine below_drewN ?_ _ | refine Below.setCell ?_ ?_ _ | refine below_via (by with_reducible assumption) ?_ ?_) | omega | (simp only [szs]; omega) | (simp only [szs] at *; omega)))⟩
end Go.Proofs.YtckjojmphdoghaaDoor

namespace Go.Proofs.YtckjojmphdoghaaDoor
open Go.RowKit Go.Proofs
set_option linter.unusedVariables false
set_option linter.unusedSimpArgs false

/-- A row of one's own of n words, none of it below base. -/
def OwnW (w : World) (base : Nat) (v : Value) (n : Nat) (z : Nat → Nat) : Prop := w.ownsRow base 34 1 v n (wals z n)
theorem OwnW.nil (w : World) (base : Nat) (z : Nat → Nat) : OwnW w base (.slice none 0 0) 0 z := World.ownsRow_nil w base _ 1
theorem OwnW.lt {w : World} {base : Nat} {v : Value} {n : Nat} {z : Nat → Nat} (h : OwnW w base v n z) : ∀ k, v.ownBlock = some k → base ≤ k ∧ k < w.heap.size := World.ownsRow.lt h
theorem OwnW.below {w w1 : World} {B base : Nat} {v : Value} {n : Nat} {z : Nat → Nat} (h : OwnW w base v n z) (hb : Below B w w1) (hl : ∀ k, v.ownBlock = some k → k < B) : OwnW w1 base v n z := own_below h hb hl
theorem OwnW.on {w w1 : World} {base : Nat} {v : Value} {n : Nat} {z : Nat → Nat} (h : OwnW w base v n z) (hb : Below w.heap.size w w1) : OwnW w1 base v n z := h.below hb fun k hk => (h.lt k hk).2
theorem OwnW.src {w : World} {base : Nat} {v : Value} {n : Nat} {z : Nat → Nat} (h : OwnW w base v n z) : ∃ a c, v = .slice a n c ∧ n ≤ c ∧ c ≤ maxLen ∧ SrcW w.heap.size w a n z := by
  rcases h.2 with ⟨rfl, rfl⟩ | ⟨g, cap, cur, rfl, h1, h2, h3, h4, h5, h6⟩
  · exact ⟨none, 0, rfl, by omega, by omega, Or.inl rfl⟩
  · exact ⟨_, cap, rfl, h3, h4, SrcW.of (wds_of_row h)⟩
theorem OwnW.congr {w : World} {base : Nat} {v : Value} {n : Nat} {y z : Nat → Nat} (h : OwnW w base v n y) (e : ∀ i, i < n → y i = z i) : OwnW w base v n z := by
  unfold OwnW at *
  rw [wals_congr z y n fun i hi => (e i hi).symm]
  exact h

theorem run_app1W (w : World) (ty : TypeId) (base : Nat) (v : Value) (n : Nat) (z : Nat → Nat) (hown : OwnW w base v n z) (g X : Nat) (hc : w.cell? ⟨g, 0, none⟩ = some (.int .u64 (X : Nat))) (hn : n ≤ 1000000) (hbase : base ≤ w.heap.size) (hX : z n = X) :
    ∃ v' w', (Builtin.append_ #[32, 32] ty #[v, .slice (some ⟨g, 0, none⟩) 1 1]).run Tryd.prog w = .ok v' w' ∧ OwnW w' base v' (n + 1) z ∧ Below base w w' := by
  obtain ⟨i0, hi, hz1, hz2, hz0⟩ := wdInfo
  obtain ⟨v', w', hr, h2, h3, h4⟩ := run_append_own (P := Tryd.prog) w base 32 ty 34 i0 _ 1 8 Tryd.underlying32 hi hz0 hz1 hz2 rfl (by decide) v n _ hown ⟨g, 0, none⟩ 1 1 [.int .u64 (X : Nat)] rfl
    (fun j u h => by cases j with | zero => (simp at h; subst h; rw [add_none]; exact hc) | succ j => simp at h) (by simp [Value.oneCell']) (by unfold maxLen; omega) (by omega) hbase
  refine ⟨v', w', hr, ?_, (Below.refl base w).grown h3 hbase (fun k hk => (hown.lt k hk).1)⟩
  unfold OwnW
  rw [wals_succ, hX]
  exact h2
/-- One word behind a row of one's own, in a region that draws. -/
theorem wp_app1W {o : Oper} {a : Act} {w : World} {K : Act → World → Prop} {Q : Exit → Act → World → Prop} (s x : Operand)
    (ho : o.op = .call { callee := .builtin .append, args := #[s, x], argTypes := #[32, 32] }) (base : Nat) (v : Value) (n : Nat) (z : Nat → Nat) (hs : a.eval s = v) (hown : OwnW w base v n z) (g X : Nat) (hx : a.eval x = .slice (some ⟨g, 0, none⟩) 1 1) (hc : w.cell? ⟨g, 0, none⟩ = some (.int .u64 (X : Nat))) (hn : n ≤ 1000000) (hbase : base ≤ w.heap.size) (hX : z n = X)
    (h : ∀ v' w', OwnW w' base v' (n + 1) z → Below base w w' → K (a.put o.dst v') w') : o.wp Tryd.prog a w K Q := by
  obtain ⟨v', w', hr, h1, h2⟩ := run_app1W w o.type base v n z hown g X hc hn hbase hX
  unfold Oper.wp execOp
  simp only [ho, resolve, invoke, builtin, Sem.run_bind, Sem.run_pure, Result.andThen_ok, List.map_toArray, List.map_cons, List.map_nil, hs, hx, hr]
  exact h v' w' h1 h2
/-- The same, where operations go in order. -/
theorem wpList_app1W {ops : Array Oper} {rest : List Oper} {o : Oper} {a : Act} {w : World} {Q : Exit → Act → World → Prop} (hgd : o.guard = none) (s x : Operand)
    (ho : o.op = .call { callee := .builtin .append, args := #[s, x], argTypes := #[32, 32] }) (base : Nat) (v : Value) (n : Nat) (z : Nat → Nat) (hs : a.eval s = v) (hown : OwnW w base v n z) (g X : Nat) (hx : a.eval x = .slice (some ⟨g, 0, none⟩) 1 1) (hc : w.cell? ⟨g, 0, none⟩ = some (.int .u64 (X : Nat))) (hn : n ≤ 1000000) (hbase : base ≤ w.heap.size) (hX : z n = X)
    (h : ∀ v' w', OwnW w' base v' (n + 1) z → Below base w w' → wpList Tryd.prog ops Q rest (a.put o.dst v') w') : wpList Tryd.prog ops Q (o :: rest) a w := by
  refine wpList_plain hgd fun K hK => ?_
  exact wp_app1W s x ho base v n z hs hown g X hx hc hn hbase hX fun v' w' h1 h2 => hK _ _ (h v' w' h1 h2)
end Go.Proofs.YtckjojmphdoghaaDoor

namespace Go.Proofs.YtckjojmphdoghaaDoor
open Go.RowKit Go.Proofs
set_option linter.unusedVariables false
set_option linter.unusedSimpArgs false
attribute [local go_sem ↓] Go.wp_at_zero Go.wp_at_succ
/-- What rank.Sum answers of every list. -/
def SumC (f : FuncId) : Prop := ∀ (L : Lst), L.Ok → L.n ≤ 1000000 → ∀ W, L.At W.heap.size W → Calls Tryd.prog f #[L.val] W fun e w' => ∃ v, e = .returned v ∧ SumRes L W w' v ∧ Below W.heap.size W w'
theorem same_self (A B : Lst) (hn : A.n = B.n) (hV : A.V = B.V) (hK : A.K = B.K) : sameB A B = true := by
  have key : ∀ i, eqN A B i = true := by
    intro i
    induction i with
    | zero => rfl
    | succ i ih =>
      show (eqN A B i && eqT A B i) = true
      rw [ih]
      unfold eqT
      rw [hV, hK]
      simp
  unfold sameB
  rw [decide_eq_true hn, key]
  rfl
set_option maxRecDepth 8000 in
set_option maxHeartbeats 16000000 in
theorem rstays_core (vars pubs bad at_ : Int) (a : Option Addr) (m c : Nat) (R : Nat → Nat → Lst) (L : Lst) (hL : L.Ok) (hLn : L.n ≤ 60) (ad : Option Addr) (n d : Nat) (hn : n ≤ 5000) (x : Nat → Nat) (w : World)
   (hR : RowsAt w.heap.size w a m R) (hA : L.At w.heap.size w) (hs : SrcW w.heap.size w ad n x)
   (cu : ∀ W, Below w.heap.size w W → Calls Tryd.prog 8 #[] W fun e w' => e = .returned (.bool true) ∧ Below W.heap.size W w')
   (cl : ∀ W, Below w.heap.size w W → Calls Tryd.prog 9 #[rankV vars pubs a m c] W fun e w' => e = .returned (.bool true) ∧ Below W.heap.size W w')
   (cH : ∀ W ad d, RowsAt W.heap.size W a m R → SrcW W.heap.size W ad n x → Calls Tryd.prog 17 #[rankV vars pubs a m c, .slice ad n d] W fun e w' => ∃ er, e = .returned er ∧ ErrIs W.heap.size w' er bad at_ ∧ Below W.heap.size W w')
   (cS : SumC 12) :
    Calls Tryd.prog 7 #[rankV vars pubs a m c, L.val, .slice ad n d] w fun e w' => e = .returned (.bool true) ∧ Below w.heap.size w w' := by
  have hn' : ¬ (5000 : Int) < (n : Int) := by omega
  have hl' : ¬ (60 : Int) < (L.n : Int) := by omega
  have hR' : Hid (RowsAt w.heap.size w a m R) := hR
  have hA' : Hid (L.At w.heap.size w) := hA
  have hs' : Hid (SrcW w.heap.size w ad n x) := hs
  have hL' : Hid L.Ok := hL
  have cS' : Hid (SumC 12) := cS
  have cM := fun W A hA h1 h2 => vsameW A L hA hL W h1 h2
  clear hR hA hs hL cS
  unfold rankV Lst.val at *
  go_enter Tryd.func7, Tryd.ntmps7
  go_upto_region 5 with (first | (go_at_call 8; (with_reducible refine (cu _ (by (repeat' (first | (with_reducible first | exact Below.refl _ _ | assumption | refine Below.alloc ?_ ?_ _ | refine Below.drew ?_ | refine below_drewN ?_ _ | refine Below.setCell ?_ ?_ _ | refine below_via (by with_reducible assumption) ?_ ?_) | omega | (simp only [szs]; omega) | (simp only [szs] at *; omega))))).mono ?_); rintro e w1 ⟨rfl, b1⟩; have z1 := b1.size; (try simp only [szs] at z1); have q1 := own3 b1 w.heap.size (by first | omega | (simp only [szs]; omega))) | (go_at_call 9; (with_reducible refine (cl _ (by (repeat' (first | (with_reducible first | exact Below.refl _ _ | assumption | refine Below.alloc ?_ ?_ _ | refine Below.drew ?_ | refine below_drewN ?_ _ | refine Below.setCell ?_ ?_ _ | refine below_via (by with_reducible assumption) ?_ ?_) | omega | (simp only [szs]; omega) | (simp only [szs] at *; omega))))).mono ?_); rintro e w2 ⟨rfl, b2⟩; have z2 := b2.size; (try simp only [szs] at z2); have q2 := own3 b2 w.heap.size (by first | omega | (simp only [szs]; omega))))
  have t2 : Three w2 w.heap.size (.int .i64 vars) (.int .i64 pubs) (.slice a m c) := by (repeat' (first | (with_reducible first | assumption | exact Three.own (by with_reducible assumption) | refine Three.set ?_ _ _ _ | refine Own3.set ?_ _ _ _ | refine Three.drew ?_ | refine Three.drewN ?_ _ | refine Own3.drew ?_ | refine Own3.drewN ?_ _ | (refine Three.new ?_; simp only [szs]; done) | (refine Own3.new ?_; simp only [szs]; done) | refine Three.alloc ?_ _ | refine Own3.alloc ?_ _ | refine Three.far ?_ ?_ _ _ | refine Own3.far ?_ ?_ _ _ | refine Three.via (by with_reducible assumption) ?_ ?_ | refine Own3.via (by with_reducible assumption) ?_ ?_) | omega | (simp only [szs]; omega)))
  have hB2 : Below w.heap.size w w2 := by (repeat' (first | (with_reducible first | exact Below.refl _ _ | assumption | refine Below.alloc ?_ ?_ _ | refine Below.drew ?_ | refine below_drewN ?_ _ | refine Below.setCell ?_ ?_ _ | refine below_via (by with_reducible assumption) ?_ ?_) | omega | (simp only [szs]; omega) | (simp only [szs] at *; omega)))
  clear b1 z1 q1 b2 z2 q2 cu cl
  have zB2 := hB2.size
  go_upto_region 6 with (at_builtin; refine wpList_copyW rfl _ _ rfl w2.heap.size w2.heap.size rfl (World.ownsRow_made w2 #[] 0 (Nat.le_refl _) (by decide) rfl) (by simp) w.heap.size ad n d x rfl (hs'.out.below (by (repeat' (first | (with_reducible first | exact Below.refl _ _ | assumption | refine Below.alloc ?_ ?_ _ | refine Below.drew ?_ | refine below_drewN ?_ _ | refine Below.setCell ?_ ?_ _ | refine below_via (by with_reducible assumption) ?_ ?_) | omega | (simp only [szs]; omega) | (simp only [szs] at *; omega))))) (by omega) ?_; intro g cap w3 hown hC3)
  replace hC3 : Below w2.heap.size w2 w3 := below_via hC3 (by (repeat' (first | (with_reducible first | exact Below.refl _ _ | assumption | refine Below.alloc ?_ ?_ _ | refine Below.drew ?_ | refine below_drewN ?_ _ | refine Below.setCell ?_ ?_ _ | refine below_via (by with_reducible assumption) ?_ ?_) | omega | (simp only [szs]; omega) | (simp only [szs] at *; omega)))) (Nat.le_refl _)
  have t3 := t2.below hC3 t2.lt
  have hB3 : Below w.heap.size w w3 := below_via hC3 hB2 zB2
  have s3 : Hid (SrcW w3.heap.size w3 (some ⟨g, 0, none⟩) n x) := SrcW.of (wds_of_row hown)
  have zB3 := hB3.size
  clear hown hC3 t2 hB2 zB2
  go_upto_region 7 with (at_builtin; refine wpList_copyT rfl _ _ rfl w3.heap.size w3.heap.size rfl (World.ownsRow_made w3 #[] 0 (Nat.le_refl _) (by decide) rfl) (by simp) w.heap.size L.ad L.n L.c L.V L.K rfl (TrmsAt.below hA'.out (by (repeat' (first | (with_reducible first | exact Below.refl _ _ | assumption | refine Below.alloc ?_ ?_ _ | refine Below.drew ?_ | refine below_drewN ?_ _ | refine Below.setCell ?_ ?_ _ | refine below_via (by with_reducible assumption) ?_ ?_) | omega | (simp only [szs]; omega) | (simp only [szs] at *; omega))))) (by omega) ?_; intro g2 cap2 w4 hown hC4)
  replace hC4 : Below w3.heap.size w3 w4 := below_via hC4 (by (repeat' (first | (with_reducible first | exact Below.refl _ _ | assumption | refine Below.alloc ?_ ?_ _ | refine Below.drew ?_ | refine below_drewN ?_ _ | refine Below.setCell ?_ ?_ _ | refine below_via (by with_reducible assumption) ?_ ?_) | omega | (simp only [szs]; omega) | (simp only [szs] at *; omega)))) (Nat.le_refl _)
  have t4 := t3.below hC4 t3.lt
  have hB4 : Below w.heap.size w w4 := below_via hC4 hB3 zB3
  have s4 : Hid (SrcW w4.heap.size w4 (some ⟨g, 0, none⟩) n x) := s3.out.to hC4 (Nat.le_refl _)
  obtain ⟨a2, c2, e2, _, hcm, m4⟩ := hown.trms
  obtain ⟨rfl, rfl⟩ : some ⟨g2, 0, none⟩ = a2 ∧ cap2 = c2 := by cases e2; exact ⟨rfl, rfl⟩
  have zB4 := hB4.size
  obtain ⟨M, hM⟩ : ∃ M : Lst, Hid (M = ⟨some ⟨g2, 0, none⟩, L.n, cap2, L.V, L.K⟩) := ⟨_, rfl⟩
  have m4' : Hid (TrmsAt w4.heap.size w4 (some ⟨g2, 0, none⟩) L.n L.V L.K) := m4
  have hMO : Hid (Lst.Ok ⟨some ⟨g2, 0, none⟩, L.n, cap2, L.V, L.K⟩) := ⟨hL'.out.V1, hL'.out.V2, hL'.out.K1, by assumption, by unfold maxLen at hcm; show cap2 ≤ _; omega⟩
  clear hown hC4 t3 hB3 zB3 s3 e2 hcm m4 hM M
  have ⟨d1, d2, d3, d4, d5, d6, d7⟩ := t4
  have hR4 : Hid (RowsAt w4.heap.size w4 a m R) := hR'.out.to hB4 (Nat.le_refl _)
  go_upto_region 8 with (go_at_call 17; (with_reducible refine (cH _ _ _ hR4.out s4.out).mono ?_); rintro e w5 ⟨er, rfl, i5, b5⟩)
  clear d1 d2 d3 d4 d5 d6 d7 hR4
  have t5 := t4.below b5 t4.lt
  have hB5 : Below w.heap.size w w5 := below_via b5 hB4 zB4
  have s5 : Hid (SrcW w5.heap.size w5 (some ⟨g, 0, none⟩) n x) := s4.out.to b5 (Nat.le_refl _)
  have m5 : Hid (TrmsAt w5.heap.size w5 (some ⟨g2, 0, none⟩) L.n L.V L.K) := TrmsAt.to m4'.out b5 (Nat.le_refl _)
  have zB5 := hB5.size
  clear b5 t4 hB4 zB4 s4 m4'
  have cT := cS'.out ⟨some ⟨g2, 0, none⟩, L.n, cap2, L.V, L.K⟩ hMO.out (by show L.n ≤ _; omega) w5 m5.out
  unfold Lst.val at cT
  go_upto_region 9 with (go_at_call 12; (with_reducible refine cT.mono ?_); rintro e w6 ⟨v, rfl, r6, b6⟩)
  obtain ⟨P, _, _, rfl, _, pn, ox⟩ := r6.list hMO.out
  have t6 := t5.below b6 t5.lt
  have hB6 : Below w.heap.size w w6 := below_via b6 hB5 zB5
  have s6 : Hid (SrcW w5.heap.size w6 (some ⟨g, 0, none⟩) n x) := s5.out.below b6
  have m6 : Hid (TrmsAt w5.heap.size w6 (some ⟨g2, 0, none⟩) L.n L.V L.K) := TrmsAt.below m5.out b6
  have lt6 : w.heap.size < w5.heap.size := t5.lt
  have z56 := b6.size
  have ox6 : Hid (OwnX w6 w5.heap.size (.slice P.ad P.n P.c) P.n) := ox
  have pn' : P.n ≤ 60 := Nat.le_trans (show P.n ≤ L.n from pn) hLn
  unfold Lst.val
  have hcase : (er = .nilIface ∧ bad = 0 ∧ at_ = -1) ∨ ((∃ t v, er = .iface t v) ∧ ¬ (bad = 0 ∧ at_ = -1)) := by
    by_cases hz : bad = 0 ∧ at_ = -1
    · exact Or.inl ⟨i5.nil_iff.2 hz, hz⟩
    · exact Or.inr ⟨i5.other hz, hz⟩
  have hcase' : Hid ((er = .nilIface ∧ bad = 0 ∧ at_ = -1) ∨ ((∃ t v, er = .iface t v) ∧ ¬ (bad = 0 ∧ at_ = -1))) := hcase
  clear hcase b6 t5 hB5 zB5 s5 m5 cT r6 ox i5 cS' pn
  generalize P.n = k at *
  generalize P.ad = ap at *
  generalize P.c = cp at *
  generalize w5.heap.size = N at *
  go_wp2
  go_loopw [13] (fun si wr => ∃ i : Nat, i ≤ k ∧ si = .int .i64 i ∧ Below N w6 wr ∧ Hid (OwnX wr N (.slice ap k cp) k)) (fun si _ => k - (intOf si).toNat)
  case atStart => exact ⟨0, by omega, rfl, Below.refl _ _, ox6⟩
  case round =>
    clear ox6
    obtain ⟨i, hi, rfl, hC, hO⟩ := hrel
    by_cases hlt : i < k
    · have hlt' : (i : Int) < (k : Int) := by omega
      obtain ⟨g3, cap3, e3, l3, _⟩ := hO.out.form (by omega)
      obtain ⟨rfl, rfl⟩ : ap = some ⟨g3, 0, none⟩ ∧ cp = cap3 := by cases e3; exact ⟨rfl, rfl⟩
      obtain ⟨⟨x0, y0, p0, p1⟩, p2, p3, p4⟩ := hO.out.cells i hlt
      rw [Nat.zero_add] at p0 p1 p2 p3 p4
      have hO2 : Hid (OwnX ((wr.setCell ⟨g3, i * 2, none⟩ (.int .i64 0)).setCell ⟨g3, i * 2 + 1, none⟩ (.int .u64 0)) N (.slice (some ⟨g3, 0, none⟩) k cp) k) := p4 _ _
      have hC2 : Hid (Below N w6 ((wr.setCell ⟨g3, i * 2, none⟩ (.int .i64 0)).setCell ⟨g3, i * 2 + 1, none⟩ (.int .u64 0))) := (hC.setCell l3 _).setCell l3 _
      clear e3 p4 hO
      go_wp2
      go_roundw
      case rel => exact ⟨i + 1, by omega, by go_num, hC2.out, hO2⟩
      case measure => first | (simp [intOf]; done) | (simp [intOf]; omega)
    · have hlt' : ¬ (i : Int) < (k : Int) := by omega
      have t7 := t6.below hC lt6
      have hB7 : Below w.heap.size w wr := below_via hC hB6 (by omega)
      have hR7 : Hid (RowsAt wr.heap.size wr a m R) := hR'.out.to hB7 (Nat.le_refl _)
      have zC := hC.size
      have s7 : Hid (SrcW wr.heap.size wr (some ⟨g, 0, none⟩) n x) := (s6.out.below hC).mono (by omega)
      have m7 : Hid (TrmsAt wr.heap.size wr (some ⟨g2, 0, none⟩) L.n L.V L.K) := TrmsAt.mono (TrmsAt.below m6.out hC) (by omega)
      have ⟨d1, d2, d3, d4, d5, d6, d7⟩ := t7
      have zB7 := hB7.size
      clear hO hi hC t6 hB6 s6 m6
      go_upto_region 14 with (go_at_call 17; (with_reducible refine (cH _ _ _ hR7.out s7.out).mono ?_); rintro e w8 ⟨er2, rfl, i8, b8⟩)
      clear d1 d2 d3 d4 d5 d6 d7 hR7
      have hB8 : Below w.heap.size w w8 := below_via b8 hB7 zB7
      have s8 : Hid (SrcW w8.heap.size w8 (some ⟨g, 0, none⟩) n x) := s7.out.to b8 (Nat.le_refl _)
      have m8 : Hid (TrmsAt w8.heap.size w8 (some ⟨g2, 0, none⟩) L.n L.V L.K) := TrmsAt.to m7.out b8 (Nat.le_refl _)
      have hcase2 : Hid ((er2 = .nilIface ∧ bad = 0 ∧ at_ = -1) ∨ ((∃ t v, er2 = .iface t v) ∧ ¬ (bad = 0 ∧ at_ = -1))) := by
        by_cases hz : bad = 0 ∧ at_ = -1
        · exact Or.inl ⟨i8.nil_iff.2 hz, hz⟩
        · exact Or.inr ⟨i8.other hz, hz⟩
      clear b8 i8 t7 hB7 zB7 s7 m7 zC cH
      go_wp2
      go_loopw [15] (fun si wr => ∃ i : Nat, i ≤ n ∧ si = .int .i64 i ∧ Below w8.heap.size w8 wr) (fun si _ => n - (intOf si).toNat)
      case atStart => exact ⟨0, by omega, rfl, Below.refl _ _⟩
      case round =>
        obtain ⟨i, hi, rfl, hC⟩ := hrel
        have hB9 : Below w.heap.size w wr := below_via hC hB8 hB8.size
        by_cases hlt2 : i < n
        · have hlt3 : (i : Int) < (n : Int) := by omega
          rcases hs'.out with h | ⟨ba, oa, rfl, la, wa⟩
          · omega
          rcases s8.out with h | ⟨gg, oo, e0, lg, wg⟩
          · omega
          obtain ⟨rfl, rfl⟩ : g = gg ∧ 0 = oo := by cases e0; exact ⟨rfl, rfl⟩
          have p1 : wr.cell? ⟨ba, oa + i, none⟩ = some (.int .u64 (x i : Nat)) := (wa.below hB9 la).at_ i hlt2
          have p2 := (wg.below hC lg).at_ i hlt2
          rw [Nat.zero_add] at p2
          generalize x i = xi at *
          clear la wa lg wg e0
          go_wp2
          go_quiet (fail)
          go_wp2
          go_roundw
          case rel => exact ⟨i + 1, by omega, by go_num, by (repeat' (first | (with_reducible first | exact Below.refl _ _ | assumption | refine Below.alloc ?_ ?_ _ | refine Below.drew ?_ | refine below_drewN ?_ _ | refine Below.setCell ?_ ?_ _ | refine below_via (by with_reducible assumption) ?_ ?_) | omega | (simp only [szs]; omega) | (simp only [szs] at *; omega)))⟩
          case measure => first | (simp [intOf]; done) | (simp [intOf]; omega)
        · have hlt3 : ¬ (i : Int) < (n : Int) := by omega
          have cE : ∀ W, Below w8.heap.size w8 W → Calls Tryd.prog 15 #[.slice (some ⟨g2, 0, none⟩) L.n cap2, .slice L.ad L.n L.c] W fun e w' => e = .returned (.bool true) ∧ Below W.heap.size W w' := fun W h => by
            have hBW : Below w.heap.size w W := below_via h hB8 hB8.size
            have := cM W ⟨some ⟨g2, 0, none⟩, L.n, cap2, L.V, L.K⟩ hMO.out (TrmsAt.to m8.out h (Nat.le_refl _)) (TrmsAt.to hA'.out hBW (Nat.le_refl _))
            rw [same_self ⟨some ⟨g2, 0, none⟩, L.n, cap2, L.V, L.K⟩ L rfl rfl rfl] at this
            exact this
          have zC := hC.size
          have zB9 := hB9.size
          clear cM s8 m8 hMO hs' hA' hL' hR' hB8
          go_wp2
          rcases hcase'.out with ⟨rfl, hz⟩ | ⟨⟨ta, va, rfl⟩, hz⟩
          · rcases hcase2.out with ⟨rfl, _⟩ | ⟨_, hz2⟩
            · clear hcase' hcase2
              go_region_held3 (fun w' => True) (exact True.intro) ((go_at_call 15; (with_reducible refine (cE _ (by (repeat' (first | (with_reducible first | exact Below.refl _ _ | assumption | refine Below.alloc ?_ ?_ _ | refine Below.drew ?_ | refine below_drewN ?_ _ | refine Below.setCell ?_ ?_ _ | refine below_via (by with_reducible assumption) ?_ ?_) | omega | (simp only [szs]; omega) | (simp only [szs] at *; omega))))).mono ?_); rintro e w9 ⟨rfl, b9⟩; have z9 := b9.size))
              all_goals
                go_wp2
                go_ret
                exact ⟨rfl, by (repeat' (first | (with_reducible first | exact Below.refl _ _ | assumption | refine Below.alloc ?_ ?_ _ | refine Below.drew ?_ | refine below_drewN ?_ _ | refine Below.setCell ?_ ?_ _ | refine below_via (by with_reducible assumption) ?_ ?_) | omega | (simp only [szs]; omega) | (simp only [szs] at *; omega)))⟩
            · exact absurd hz hz2
          · rcases hcase2.out with ⟨_, hz2⟩ | ⟨⟨tb, vb, rfl⟩, _⟩
            · exact absurd hz2 hz
            · clear hcase' hcase2
              go_region_held3 (fun w' => True) (exact True.intro) ((go_at_call 15; (with_reducible refine (cE _ (by (repeat' (first | (with_reducible first | exact Below.refl _ _ | assumption | refine Below.alloc ?_ ?_ _ | refine Below.drew ?_ | refine below_drewN ?_ _ | refine Below.setCell ?_ ?_ _ | refine below_via (by with_reducible assumption) ?_ ?_) | omega | (simp only [szs]; omega) | (simp only [szs] at *; omega))))).mono ?_); rintro e w9 ⟨rfl, b9⟩; have z9 := b9.size))
              all_goals
                go_wp2
                go_ret
                exact ⟨rfl, by (repeat' (first | (with_reducible first | exact Below.refl _ _ | assumption | refine Below.alloc ?_ ?_ _ | refine Below.drew ?_ | refine below_drewN ?_ _ | refine Below.setCell ?_ ?_ _ | refine below_via (by with_reducible assumption) ?_ ?_) | omega | (simp only [szs]; omega) | (simp only [szs] at *; omega)))⟩
end Go.Proofs.YtckjojmphdoghaaDoor

namespace Go.Proofs.YtckjojmphdoghaaDoor
open Go.RowKit Go.Proofs
set_option linter.unusedVariables false
set_option linter.unusedSimpArgs false
attribute [local go_sem ↓] Go.wp_at_zero Go.wp_at_succ
theorem nplusW (a b : Nat) (ha : a < 18446744073709551616) (hb : b < 18446744073709551616) (w : World) :
    Calls Tryd.prog 25 #[.int .u64 a, .int .u64 b] w fun e w' => e = .returned (.int .u64 ((Ob.toG a + Ob.toG b).val : Nat)) ∧ w = w' := by
  have c0 : ∀ w, Calls Tryd.prog 37 #[.int .u64 288230376287764481, .int .u64 a, .int .u64 b] w fun e w' => e = .returned (.int .u64 ((Ob.toG a + Ob.toG b).val : Nat)) ∧ w = w' := fun w => by
    rw [← Ob.addG]
    exact add_any Ob.RE a b w (by decide) ha hb
  generalize (Ob.toG a + Ob.toG b).val = r at *
  go_enter Tryd.func25, Tryd.ntmps25
  go_wp2_with (first | (go_at_call 37; first | (with_reducible refine (c0 _).mono ?_; rintro e w' ⟨rfl, rfl⟩)))
  go_ret
  exact ⟨rfl, rfl⟩
theorem ntimesW (a b : Nat) (ha : a < 18446744073709551616) (hb : b < 18446744073709551616) (w : World) :
    Calls Tryd.prog 26 #[.int .u64 288230376287764481, .int .u64 a, .int .u64 b] w fun e w' => e = .returned (.int .u64 ((Ob.toG a * Ob.toG b).val : Nat)) ∧ ∃ n, w' = w.drewN n := by
  rw [← Ob.mulG]
  exact mul_any Ob.RE a b w (by decide) ha hb
set_option maxHeartbeats 4000000 in
theorem nfitsW (L : Lst) (hL : L.Ok) (vars : Int) (hv : vars < 9223372036854775808) (w : World) (hA : L.At w.heap.size w) :
    Calls Tryd.prog 21 #[L.val, .int .i64 vars] w fun e w' => e = .returned (.bool (soundB vars L)) ∧ Below w.heap.size w w' := by
  have hA' : Hid (L.At w.heap.size w) := hA
  have hL' : Hid L.Ok := hL
  obtain ⟨S, hS⟩ : ∃ S, Hid (soundB vars L = S) := ⟨_, rfl⟩
  rw [hS.out]
  have hn : L.n ≤ 9223372036854775807 := Nat.le_trans hL.n1 hL.n2
  clear hA hL
  unfold Lst.val
  go_enter Tryd.func21, Tryd.ntmps21
  go_wp2
  go_loopw [5, 10] (fun sl si wr => ∃ (i : Nat) (l : Int), i ≤ L.n ∧ sl = .int .i64 l ∧ si = .int .i64 i ∧ Below w.heap.size w wr ∧ Hid (l = prevV L i + 1) ∧ Hid (soundN vars L i = true)) (fun sl si _ => L.n - (intOf si).toNat)
  case atStart => exact ⟨0, 0, by omega, rfl, rfl, by (repeat' (first | (with_reducible first | exact Below.refl _ _ | assumption | refine Below.alloc ?_ ?_ _ | refine Below.drew ?_ | refine below_drewN ?_ _ | refine Below.setCell ?_ ?_ _ | refine below_via (by with_reducible assumption) ?_ ?_) | omega | (simp only [szs]; omega) | (simp only [szs] at *; omega))), rfl, rfl⟩
  case round =>
    obtain ⟨i, l, hi, rfl, rfl, hB, hl, hI⟩ := hrel
    by_cases hlt : i < L.n
    · have hlt' : (i : Int) < (L.n : Int) := by omega
      rcases hA'.out with hn | ⟨b, off, hb, lb, tb⟩
      · omega
      have tb := tb.below hB lb
      have c0 := tb.c0 i hlt
      have c1 := tb.c1 i hlt
      have hK := hL'.out.K1 i
      have hV1 := hL'.out.V1 i
      have hdec : Hid (okT vars L i = false → S = false) := fun h => by rw [← hS.out]; exact soundN_not h hlt
      have hstep : Hid (okT vars L i = true → soundN vars L (i + 1) = true) := fun h => by show (soundN vars L i && okT vars L i) = true; rw [hI.out, h]; rfl
      have hok : Hid (okT vars L i = decide (l ≤ L.V i ∧ L.V i < vars ∧ L.K i ≠ 0 ∧ L.K i < 288230376287764481)) := by
        show decide (prevV L i < L.V i ∧ L.V i < vars ∧ L.K i ≠ 0 ∧ L.K i < 288230376287764481) = _
        have := hl.out
        exact decide_eq_decide.2 (by omega)
      have hnext : Hid (L.V i + 1 = prevV L (i + 1) + 1) := rfl
      rw [hb]
      generalize L.V i = Vi at *
      generalize L.K i = Ki at *
      have zB := hB.size
      clear tb hl hI
      by_cases h1 : l ≤ Vi
      · have h1' : ¬ Vi < l := by omega
        by_cases h2 : Vi < vars
        · have h2' : ¬ vars ≤ Vi := by omega
          have hw : IntKind.i64.wrap (Vi + 1) = Vi + 1 := by rw [IntKind.wrap_i64]; omega
          by_cases h3 : Ki = 0
          · subst h3
            obtain rfl := hdec.out (hok.out.trans (decide_eq_false (by omega)))
            go_wp2
            go_ret
            exact ⟨rfl, by (repeat' (first | (with_reducible first | exact Below.refl _ _ | assumption | refine Below.alloc ?_ ?_ _ | refine Below.drew ?_ | refine below_drewN ?_ _ | refine Below.setCell ?_ ?_ _ | refine below_via (by with_reducible assumption) ?_ ?_) | omega | (simp only [szs]; omega) | (simp only [szs] at *; omega)))⟩
          · have h3' : ((Ki : Int) == 0) = false := by rw [beq_eq_false_iff_ne]; omega
            by_cases h4 : Ki < 288230376287764481
            · have h4' : ¬ (288230376287764481 : Int) ≤ (Ki : Int) := by omega
              have hst := hstep.out (hok.out.trans (decide_eq_true ⟨h1, h2, h3, h4⟩))
              have hst' : Hid (soundN vars L (i + 1) = true) := hst
              clear hst hdec hstep hok h3 h4
              go_wp2
              go_roundw
              case rel => exact ⟨i + 1, Vi + 1, by omega, by first | rfl | trivial, by go_num, by (repeat' (first | (with_reducible first | exact Below.refl _ _ | assumption | refine Below.alloc ?_ ?_ _ | refine Below.drew ?_ | refine below_drewN ?_ _ | refine Below.setCell ?_ ?_ _ | refine below_via (by with_reducible assumption) ?_ ?_) | omega | (simp only [szs]; omega) | (simp only [szs] at *; omega))), hnext, hst'⟩
              case measure => (simp [intOf]; omega)
            · have h4' : (288230376287764481 : Int) ≤ (Ki : Int) := by omega
              obtain rfl := hdec.out (hok.out.trans (decide_eq_false (by omega)))
              go_wp2
              go_ret
              exact ⟨rfl, by (repeat' (first | (with_reducible first | exact Below.refl _ _ | assumption | refine Below.alloc ?_ ?_ _ | refine Below.drew ?_ | refine below_drewN ?_ _ | refine Below.setCell ?_ ?_ _ | refine below_via (by with_reducible assumption) ?_ ?_) | omega | (simp only [szs]; omega) | (simp only [szs] at *; omega)))⟩
        · have h2' : vars ≤ Vi := by omega
          obtain rfl := hdec.out (hok.out.trans (decide_eq_false (by omega)))
          go_wp2
          go_ret
          exact ⟨rfl, by (repeat' (first | (with_reducible first | exact Below.refl _ _ | assumption | refine Below.alloc ?_ ?_ _ | refine Below.drew ?_ | refine below_drewN ?_ _ | refine Below.setCell ?_ ?_ _ | refine below_via (by with_reducible assumption) ?_ ?_) | omega | (simp only [szs]; omega) | (simp only [szs] at *; omega)))⟩
      · have h1' : Vi < l := by omega
        obtain rfl := hdec.out (hok.out.trans (decide_eq_false (by omega)))
        go_wp2
        go_ret
        exact ⟨rfl, by (repeat' (first | (with_reducible first | exact Below.refl _ _ | assumption | refine Below.alloc ?_ ?_ _ | refine Below.drew ?_ | refine below_drewN ?_ _ | refine Below.setCell ?_ ?_ _ | refine below_via (by with_reducible assumption) ?_ ?_) | omega | (simp only [szs]; omega) | (simp only [szs] at *; omega)))⟩
    · have hlt' : ¬ (i : Int) < (L.n : Int) := by omega
      obtain rfl : i = L.n := by omega
      obtain rfl : S = true := hS.out.symm.trans hI.out
      go_wp2
      go_ret
      exact ⟨rfl, by (repeat' (first | (with_reducible first | exact Below.refl _ _ | assumption | refine Below.alloc ?_ ?_ _ | refine Below.drew ?_ | refine below_drewN ?_ _ | refine Below.setCell ?_ ?_ _ | refine below_via (by with_reducible assumption) ?_ ?_) | omega | (simp only [szs]; omega) | (simp only [szs] at *; omega)))⟩
set_option maxHeartbeats 8000000 in
theorem nvalueW (L : Lst) (hL : L.Ok) (ad : Option Addr) (n c : Nat) (hn : n ≤ 9223372036854775807) (x : Nat → Nat) (hx : ∀ i, x i < 18446744073709551616) (w : World) (hA : L.At w.heap.size w) (hs : SrcW w.heap.size w ad n x) :
    Calls Tryd.prog 13 #[L.val, .slice ad n c] w fun e w' => e = .returned (.int .u64 ((valL L n x).val : Nat)) ∧ Below w.heap.size w w' := by
  have hA' : Hid (L.At w.heap.size w) := hA
  have hL' : Hid L.Ok := hL
  have hs' : Hid (SrcW w.heap.size w ad n x) := hs
  have hx' : Hid (∀ i, x i < 18446744073709551616) := hx
  have hLn : L.n ≤ 9223372036854775807 := Nat.le_trans hL.n1 hL.n2
  obtain ⟨S, hS⟩ : ∃ S, Hid ((valL L n x).val = S) := ⟨_, rfl⟩
  rw [hS.out]
  clear hA hL hs hx
  unfold Lst.val
  go_enter Tryd.func13, Tryd.ntmps13
  go_wp2
  go_loopw [5, 10] (fun so si wr => ∃ (i o : Nat), i ≤ L.n ∧ so = .int .u64 o ∧ si = .int .i64 i ∧ Below w.heap.size w wr ∧ Hid ((valN L n x i).val = o)) (fun so si _ => L.n - (intOf si).toNat)
  case atStart => exact ⟨0, 0, by omega, rfl, rfl, by (repeat' (first | (with_reducible first | exact Below.refl _ _ | assumption | refine Below.alloc ?_ ?_ _ | refine Below.drew ?_ | refine below_drewN ?_ _ | refine Below.setCell ?_ ?_ _ | refine below_via (by with_reducible assumption) ?_ ?_) | omega | (simp only [szs]; omega) | (simp only [szs] at *; omega))), rfl⟩
  case round =>
    obtain ⟨i, o, hi, rfl, rfl, hB, hI⟩ := hrel
    by_cases hlt : i < L.n
    · have hlt' : (i : Int) < (L.n : Int) := by omega
      rcases hA'.out with hz | ⟨b, off, hb, lb, tb⟩
      · omega
      have tb := tb.below hB lb
      have c0 := tb.c0 i hlt
      have c1 := tb.c1 i hlt
      have hK := hL'.out.K1 i
      have hV1 := hL'.out.V1 i
      have hV2 := hL'.out.V2 i
      have lo : o < 18446744073709551616 := by rw [← hI.out]; exact Ob.G_word _
      have hto : Hid (Ob.toG o = valN L n x i) := by show _ = _; rw [← hI.out, Ob.toG_of_val]
      have hstep : Hid (valN L n x (i + 1) = valN L n x i + termG L n x i) := rfl
      have hI2 : Hid ((valN L n x i).val = o) := hI.out
      have zB := hB.size
      rw [hb]
      clear hI
      by_cases h1 : 0 ≤ L.V i ∧ L.V i < (n : Int)
      · obtain ⟨h1, h2⟩ := h1
        obtain ⟨v, hv⟩ : ∃ v : Nat, L.V i = (v : Int) := ⟨(L.V i).toNat, by omega⟩
        have hvn : v < n := by omega
        rcases hs'.out with hz | ⟨bs, os, rfl, ls, ws⟩
        · omega
        have c2 := (ws.below hB ls).at_ v hvn
        have hxv := hx'.out v
        have ht : Hid (termG L n x i = Ob.toG (L.K i) * Ob.toG (x v)) := by
          show termG L n x i = _
          unfold termG
          rw [if_pos ⟨h1, h2⟩, hv, Int.toNat_natCast]
        have cm := ntimesW (L.K i) (x v) hK hxv
        have lp := Ob.G_word (Ob.toG (L.K i) * Ob.toG (x v))
        have ep : Ob.toG (Ob.toG (L.K i) * Ob.toG (x v)).val = termG L n x i := by rw [Ob.toG_of_val, ht.out]
        obtain ⟨p, hp⟩ : ∃ p, Hid ((Ob.toG (L.K i) * Ob.toG (x v)).val = p) := ⟨_, rfl⟩
        rw [hp.out] at cm lp ep
        have ca := nplusW o p lo lp
        have ho' : Hid ((valN L n x (i + 1)).val = (Ob.toG o + Ob.toG p).val) := by show _ = _; rw [ep, hto.out, hstep.out]
        generalize (Ob.toG o + Ob.toG p).val = o' at *
        rw [hv] at c0 h1 h2
        clear hV1 hV2 hstep hto ht hxv lo hK hv hp ep lp
        generalize x v = xv at *
        generalize L.K i = Ki at *
        have lsw := (ws.below hB ls).lt
        clear tb ws
        go_upto_region 6 with (fail)
        have t2 : Two (wr.alloc (.cells #[.int .i64 (v : Nat), .int .u64 (Ki : Nat)] 46)) wr.heap.size (.int .i64 (v : Nat)) (.int .u64 (Ki : Nat)) := by (repeat' (first | (with_reducible first | assumption | exact Two.own (by with_reducible assumption) | refine Two.set ?_ _ _ | refine Own2.set ?_ _ _ | refine Two.drew ?_ | refine Two.drewN ?_ _ | refine Own2.drew ?_ | refine Own2.drewN ?_ _ | (refine Two.new ?_; simp only [szs]; done) | (refine Own2.new ?_; simp only [szs]; done) | refine Two.alloc ?_ _ | refine Own2.alloc ?_ _ | refine Two.far ?_ ?_ _ _ | refine Own2.far ?_ ?_ _ _ | refine Two.via (by with_reducible assumption) ?_ ?_ | refine Own2.via (by with_reducible assumption) ?_ ?_) | omega | (simp only [szs]; omega)))
        have c3 : (wr.alloc (.cells #[.int .i64 (v : Nat), .int .u64 (Ki : Nat)] 46)).cell? ⟨bs, os + v, none⟩ = some (.int .u64 (xv : Nat)) := by
          exact (World.cell?_alloc_past _ _ _ (by omega)).trans c2
        have hB2 : Hid (Below w.heap.size w (wr.alloc (.cells #[.int .i64 (v : Nat), .int .u64 (Ki : Nat)] 46))) := by show Below _ _ _; (repeat' (first | (with_reducible first | exact Below.refl _ _ | assumption | refine Below.alloc ?_ ?_ _ | refine Below.drew ?_ | refine below_drewN ?_ _ | refine Below.setCell ?_ ?_ _ | refine below_via (by with_reducible assumption) ?_ ?_) | omega | (simp only [szs]; omega) | (simp only [szs] at *; omega)))
        generalize (wr.alloc (.cells #[.int .i64 (v : Nat), .int .u64 (Ki : Nat)] 46)) = W at *
        generalize wr.heap.size = bw at *
        clear c0 c1 c2 hB zB
        have hB := hB2.out
        clear hB2
        have ⟨e1, e2, e3, e4, e5⟩ := t2
        go_region_held3 (fun w' => (w'.cell? ⟨bw, 0, none⟩ = some (.int .i64 (v : Nat)) ∧ w'.cell? ⟨bw, 1, none⟩ = some (.int .u64 (Ki : Nat))) ∧ w'.cell? ⟨bs, os + v, none⟩ = some (.int .u64 (xv : Nat))) (go_keep)
          ((first | (go_at_call 26; first | (with_reducible refine (cm _).mono ?_; rintro e w' ⟨rfl, nd, rfl⟩)) | (go_at_call 25; first | (with_reducible refine (ca _).mono ?_; rintro e w' ⟨rfl, rfl⟩))))
        go_wp2
        go_roundw
        case rel => exact ⟨i + 1, o', by omega, by first | rfl | trivial, by go_num, by (repeat' (first | (with_reducible first | exact Below.refl _ _ | assumption | refine Below.alloc ?_ ?_ _ | refine Below.drew ?_ | refine below_drewN ?_ _ | refine Below.setCell ?_ ?_ _ | refine below_via (by with_reducible assumption) ?_ ?_) | omega | (simp only [szs]; omega) | (simp only [szs] at *; omega))), ho'⟩
        case measure => (simp [intOf]; omega)
      · have ht : Hid (valN L n x (i + 1) = valN L n x i) := by
          show _ = _
          rw [hstep.out]
          unfold termG
          rw [if_neg h1, Fin.add_zero]
        have ho' : Hid ((valN L n x (i + 1)).val = o) := by
          show _ = _
          rw [ht.out]
          exact hI2.out
        clear hstep hto ht
        generalize L.V i = Vi at *
        generalize L.K i = Ki at *
        clear tb
        by_cases h2 : 0 ≤ Vi
        · have h3 : ¬ Vi < (n : Int) := fun h => h1 ⟨h2, h⟩
          clear h1
          go_wp2
          go_roundw
          case rel => exact ⟨i + 1, o, by omega, by first | rfl | trivial, by go_num, by (repeat' (first | (with_reducible first | exact Below.refl _ _ | assumption | refine Below.alloc ?_ ?_ _ | refine Below.drew ?_ | refine below_drewN ?_ _ | refine Below.setCell ?_ ?_ _ | refine below_via (by with_reducible assumption) ?_ ?_) | omega | (simp only [szs]; omega) | (simp only [szs] at *; omega))), ho'⟩
          case measure => (simp [intOf]; omega)
        · clear h1
          go_wp2
          go_roundw
          case rel => exact ⟨i + 1, o, by omega, by first | rfl | trivial, by go_num, by (repeat' (first | (with_reducible first | exact Below.refl _ _ | assumption | refine Below.alloc ?_ ?_ _ | refine Below.drew ?_ | refine below_drewN ?_ _ | refine Below.setCell ?_ ?_ _ | refine below_via (by with_reducible assumption) ?_ ?_) | omega | (simp only [szs]; omega) | (simp only [szs] at *; omega))), ho'⟩
          case measure => (simp [intOf]; omega)
    · have hlt' : ¬ (i : Int) < (L.n : Int) := by omega
      obtain rfl : i = L.n := by omega
      obtain rfl : o = S := hI.out.symm.trans hS.out
      go_wp2
      go_ret
      exact ⟨rfl, hB⟩
end Go.Proofs.YtckjojmphdoghaaDoor
