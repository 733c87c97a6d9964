/-
  Multiples of the Edwards curve's points; how many points there are at most.
-/
import Derived.Test.YtgjpdamojfkpiabEd3
namespace Ob
set_option linter.unusedVariables false
set_option linter.unusedSimpArgs false

def gmul (u : Ep) : Nat → Ep
  | 0 => gzero
  | n + 1 => gadd (gmul u n) u
theorem onG_mul {u : Ep} (hu : onG u) : ∀ n, onG (gmul u n)
  | 0 => onG_zero
  | n + 1 => onG_add (onG_mul hu n) hu
theorem gmul_one {u : Ep} (hu : onG u) : gmul u 1 = u := zero_gadd hu
theorem gmul_add {u : Ep} (hu : onG u) (m : Nat) : ∀ n, gmul u (m + n) = gadd (gmul u m) (gmul u n)
  | 0 => (gadd_zero (onG_mul hu m)).symm
  | n + 1 => by
    show gadd (gmul u (m + n)) u = gadd (gmul u m) (gadd (gmul u n) u)
    rw [gmul_add hu m n, gadd_assoc (onG_mul hu m) (onG_mul hu n) hu]
theorem gmul_zero : ∀ n, gmul gzero n = gzero
  | 0 => rfl
  | n + 1 => by
    show gadd (gmul gzero n) gzero = gzero
    rw [gmul_zero n, gadd_zero onG_zero]
theorem gmul_mul {u : Ep} (hu : onG u) (m : Nat) : ∀ n, gmul (gmul u m) n = gmul u (m * n)
  | 0 => rfl
  | n + 1 => by
    show gadd (gmul (gmul u m) n) (gmul u m) = gmul u (m * n + m)
    rw [gmul_mul hu m n, gmul_add hu]
theorem gmul_two {u : Ep} (hu : onG u) : gmul u 2 = gadd u u := by
  show gadd (gadd gzero u) u = gadd u u
  rw [zero_gadd hu]
theorem gadd_left {a b c : Ep} (ha : onG a) (hb : onG b) (hc : onG c) (h : gadd a b = gadd a c) : b = c := by
  have hn := onG_neg ha
  have e : ∀ q, onG q → gadd (gneg a) (gadd a q) = q := fun q hq => by
    rw [← gadd_assoc hn ha hq, gadd_comm (gneg a) a, gadd_neg ha, zero_gadd hq]
  rw [← e b hb, h, e c hc]
/-- A common divisor's multiple is 0 where both's are. -/
theorem gmul_gcd {u : Ep} (hu : onG u) (m n : Nat) : gmul u m = gzero → gmul u n = gzero → gmul u (Nat.gcd m n) = gzero := by
  induction m, n using Nat.gcd.induction with
  | H0 n => intro _ h; rwa [Nat.gcd_zero_left]
  | H1 m n hm ih =>
    intro h1 h2
    rw [Nat.gcd_rec]
    refine ih ?_ h1
    have e : n = m * (n / m) + n % m := (Nat.div_add_mod n m).symm
    rw [e, gmul_add hu, ← gmul_mul hu, h1, gmul_zero, zero_gadd (onG_mul hu _)] at h2
    have e2 : (m * (n / m) + n % m) % m = n % m := by rw [Nat.mul_add_mod, Nat.mod_mod]
    exact h2

/-! All of them, added up -/
def gsum : List Ep → Ep
  | [] => gzero
  | a :: l => gadd a (gsum l)
theorem onG_sum (l : List Ep) (h : ∀ q ∈ l, onG q) : onG (gsum l) := by
  induction l with
  | nil => exact onG_zero
  | cons a l ih => exact onG_add (h a (by simp)) (ih fun q hq => h q (by simp [hq]))
theorem gsum_perm {l l' : List Ep} (p : l.Perm l') : (∀ q ∈ l, onG q) → gsum l = gsum l' := by
  induction p with
  | nil => intro _; rfl
  | cons a p ih => intro h; show gadd a _ = gadd a _; rw [ih fun q hq => h q (by simp [hq])]
  | swap a b l =>
    intro h
    have ha := h a (by simp); have hb := h b (by simp)
    have hl := onG_sum l fun q hq => h q (by simp [hq])
    show gadd b (gadd a (gsum l)) = gadd a (gadd b (gsum l))
    rw [← gadd_assoc hb ha hl, ← gadd_assoc ha hb hl, gadd_comm a b]
  | trans p1 p2 ih1 ih2 => intro h; rw [ih1 h, ih2 fun q hq => h q (p1.mem_iff.mpr hq)]
theorem gsum_shift {a : Ep} (ha : onG a) (l : List Ep) : (∀ q ∈ l, onG q) → gsum (l.map (gadd a)) = gadd (gmul a l.length) (gsum l) := by
  induction l with
  | nil => intro _; show gzero = gadd gzero gzero; rw [gadd_zero onG_zero]
  | cons b l ih =>
    intro h
    have hb := h b (by simp)
    have hl : ∀ q ∈ l, onG q := fun q hq => h q (by simp [hq])
    have hs := onG_sum l hl
    have hm := onG_mul ha l.length
    show gadd (gadd a b) (gsum (l.map (gadd a))) = gadd (gadd (gmul a l.length) a) (gadd b (gsum l))
    rw [ih hl, ← gadd_assoc (onG_add ha hb) hm hs, ← gadd_assoc (onG_add hm ha) hb hs, gadd_comm (gadd a b) (gmul a l.length), gadd_assoc hm ha hb]
theorem gorder_of (L : List Ep) (nd : L.Nodup) (on : ∀ q, onG q ↔ q ∈ L) {a : Ep} (ha : onG a) : gmul a L.length = gzero := by
  have hL : ∀ q ∈ L, onG q := fun q hq => (on q).mpr hq
  have nd' : (L.map (gadd a)).Nodup := by
    rw [List.Nodup, List.pairwise_map]
    refine List.Pairwise.imp_of_mem ?_ nd
    intro b c hb hc hbc e
    exact hbc (gadd_left ha (hL b hb) (hL c hc) e)
  have p : (L.map (gadd a)).Perm L := by
    rw [List.perm_ext_iff_of_nodup nd' nd]
    intro q
    rw [List.mem_map]
    constructor
    · rintro ⟨b, hb, rfl⟩
      exact (on _).mp (onG_add ha (hL b hb))
    · intro hq
      have hn := onG_neg ha
      refine ⟨gadd (gneg a) q, (on _).mp (onG_add hn (hL q hq)), ?_⟩
      rw [← gadd_assoc ha hn (hL q hq), gadd_neg ha, zero_gadd (hL q hq)]
  have hs := onG_sum L hL
  have e := gsum_perm p fun q hq => hL q (p.mem_iff.mp hq)
  rw [gsum_shift ha L hL] at e
  refine gadd_left hs (onG_mul ha _) onG_zero ?_
  rw [gadd_comm (gsum L) (gmul a L.length), e, gadd_zero hs]

/-! A list of all, of at most 2 R -/
theorem roots_of (y : Fin RE) : ∃ l : List (Fin RE), l.length ≤ 2 ∧ l.Nodup ∧ ∀ x, onG (x, y) ↔ x ∈ l := by
  by_cases h : ∃ x, onG (x, y)
  · obtain ⟨x, hx⟩ := h
    have two : ∀ x', onG (x', y) → x' = x ∨ x' = 0 - x := fun x' hx' => by
      have hd : 1 + 439 * (y * y) ≠ 0 := fun e => by
        have hi := gi_sq
        -- -1 is a square, 439 isn't: y y 439 = -1
        by_cases hy : y = 0
        · subst hy
          exact g1_ne (by rw [← e]; decide +kernel)
        · have e2 : gi * gi = 439 * (y * y) := by rw [hi]; generalize (439 : Fin RE) * (y * y) = q at e; clear hx hx' hi; grobner
          exact d_nosq _ (sq_quot hy e2)
      have e : (x' - x) * (x' + x) = 0 := by
        have : (x' - x) * (x' + x) * (1 + 439 * (y * y)) = 0 * (1 + 439 * (y * y)) := by
          unfold onG at hx hx'
          dsimp only at hx hx'
          generalize (439 : Fin RE) = d at *
          clear hd
          grobner
        exact Gcancel hd this
      rcases Gmul_zero e with h | h
      · left; clear hx hx' e hd; grobner
      · right; clear hx hx' e hd; grobner
    have neg : onG (0 - x, y) := onG_neg (u := (x, y)) hx
    by_cases h0 : 0 - x = x
    · refine ⟨[x], by simp, by simp, fun x' => ⟨fun h => ?_, fun h => ?_⟩⟩
      · rcases two x' h with h | h
        · simp [h]
        · rw [h0] at h; simp [h]
      · simp at h; rw [h]; exact hx
    · refine ⟨[x, 0 - x], by simp, ?_, fun x' => ⟨fun h => ?_, fun h => ?_⟩⟩
      · simp only [List.nodup_cons, List.mem_singleton, List.not_mem_nil, not_false_eq_true, List.nodup_nil, and_true]
        exact fun e => h0 e.symm
      · rcases two x' h with h | h
        · rw [h]; exact List.mem_cons_self
        · rw [h]; exact List.mem_cons_of_mem _ List.mem_cons_self
      · rcases List.mem_cons.1 h with h | h
        · rw [h]; exact hx
        · rw [List.mem_singleton.1 h]; exact neg
  · exact ⟨[], by simp, by simp, fun x => ⟨fun hx => absurd ⟨x, hx⟩ h, fun hx => by cases hx⟩⟩
theorem len_flat {α β : Type} (f : α → List β) (hf : ∀ a, (f a).length ≤ 2) : ∀ l : List α, (l.flatMap f).length ≤ 2 * l.length
  | [] => by simp
  | a :: l => by
    rw [List.flatMap_cons, List.length_append, List.length_cons]
    have := hf a
    have := len_flat f hf l
    omega
theorem all_points : ∃ L : List Ep, L.Nodup ∧ (∀ q, onG q ↔ q ∈ L) ∧ L.length ≤ 2 * RE := by
  have hr := fun y => roots_of y
  let r : Fin RE → List (Fin RE) := fun y => Classical.choose (hr y)
  have h1 : ∀ y, (r y).length ≤ 2 := fun y => (Classical.choose_spec (hr y)).1
  have h2 : ∀ y, (r y).Nodup := fun y => (Classical.choose_spec (hr y)).2.1
  have h3 : ∀ y x, onG (x, y) ↔ x ∈ r y := fun y => (Classical.choose_spec (hr y)).2.2
  clear_value r
  refine ⟨(List.finRange RE).flatMap fun y => (r y).map fun x => (x, y), ?_, ?_, ?_⟩
  · rw [List.Nodup, List.pairwise_flatMap]
    refine ⟨fun y _ => ?_, ?_⟩
    · rw [List.pairwise_map]
      exact List.Pairwise.imp (fun hab e => hab (congrArg Prod.fst e)) (h2 y)
    · refine List.Pairwise.imp ?_ (List.nodup_finRange RE)
      intro y y' hy p hp q hq e
      obtain ⟨a, _, rfl⟩ := List.mem_map.1 hp
      obtain ⟨b, _, rfl⟩ := List.mem_map.1 hq
      exact hy (congrArg Prod.snd e)
  · rintro ⟨x, y⟩
    rw [h3, List.mem_flatMap]
    constructor
    · intro h
      exact ⟨y, List.mem_finRange y, List.mem_map.2 ⟨x, h, rfl⟩⟩
    · rintro ⟨y', _, h⟩
      obtain ⟨a, ha, e⟩ := List.mem_map.1 h
      cases e
      exact ha
  · have := len_flat (fun y => (r y).map fun x => (x, y)) (fun y => by rw [List.length_map]; exact h1 y) (List.finRange RE)
    rwa [List.length_finRange] at this
end Ob
