/-
  The curve has P + 1 points, so that P + 1 times any of them is none.
-/
import Derived.Test.YtlimcjpnendcdaaCurve
namespace Ob
set_option linter.unusedVariables false
set_option linter.unusedSimpArgs false

/-! The points, counted -/

theorem fpow_neg (x : Fin P) (n : Nat) : fpow (0 - x) (2 * n + 1) = 0 - fpow x (2 * n + 1) := by
  induction n with
  | zero => show 1 * (0 - x) = 0 - 1 * x; grobner
  | succ n ih =>
    show fpow (0 - x) (2 * n + 1) * (0 - x) * (0 - x) = 0 - fpow x (2 * n + 1) * x * x
    rw [ih]
    generalize fpow x (2 * n + 1) = q
    grobner
theorem root_sq (x : Fin P) (n : Nat) (h : 4 * n = P + 1) : fpow x n * fpow x n = x ∨ fpow x n * fpow x n = 0 - x := by
  by_cases hx : x = 0
  · left
    subst hx
    obtain ⟨m, rfl⟩ : ∃ m, n = m + 1 := ⟨n - 1, by omega⟩
    show fpow 0 m * 0 * (fpow 0 m * 0) = 0
    generalize fpow 0 m = q
    grobner
  · have hf := fermatF x hx
    have e : P - 1 = (2 * n - 1) + (2 * n - 1) := by omega
    rw [e, fpow_add] at hf
    have e2 : fpow x n * fpow x n = fpow x (2 * n - 1) * x := by
      rw [← fpow_add]
      have : n + n = (2 * n - 1) + 1 := by omega
      rw [this]; rfl
    rw [e2]
    generalize fpow x (2 * n - 1) = q at *
    have : (q - 1) * (q + 1) = 0 := by clear e2; grobner
    rcases Fmul_zero this with h | h
    · left; clear hf e2 this; grobner
    · right; clear hf e2 this; grobner
theorem exists_root : ∃ r : Fin P → Fin P, (∀ f, r f * r f = f ∨ r f * r f = 0 - f) ∧ ∀ f, r (0 - f) = 0 - r f := by
  refine ⟨fun f => fpow f ((P + 1) / 4), fun f => root_sq f _ (by decide +kernel), fun f => ?_⟩
  have e : (P + 1) / 4 = 2 * ((P + 1) / 8) + 1 := by decide +kernel
  rw [e]
  exact fpow_neg f _

/-- Each number tells a point, and each point with numbers is told by one. -/
theorem exists_points : ∃ g : Fin P → Cp, (∀ t, onC (g t) ∧ g t ≠ none) ∧ (∀ t t', g t = g t' → t = t') ∧ ∀ x y : Fin P, y * y = x * x * x + x → ∃ t, g t = some (x, y) := by
  obtain ⟨r, hr, hn⟩ := exists_root
  let f : Fin P → Fin P := fun t => t * t * t + t
  have hf : ∀ t, f (0 - t) = 0 - f t := fun t => by show (0 - t) * (0 - t) * (0 - t) + (0 - t) = 0 - (t * t * t + t); grobner
  have hr0 : ∀ t, f t = 0 → r (f t) = 0 := fun t h => by
    have := hr (f t)
    rw [h] at this ⊢
    have e : r 0 * r 0 = 0 := by rcases this with h | h <;> (clear h; grind)
    rcases Fmul_zero e with h | h <;> exact h
  have hft : ∀ t, f t = t * t * t + t := fun t => rfl
  clear_value f
  refine ⟨fun t => if r (f t) * r (f t) = f t then some (t, r (f t)) else some (0 - t, r (f t)), fun t => ?_, fun t t' h => ?_, fun x y h => ?_⟩
  · dsimp only
    split
    · rename_i e
      refine ⟨?_, fun h => by cases h⟩
      show r (f t) * r (f t) = t * t * t + t
      rw [e, hft]
    · rename_i e
      refine ⟨?_, fun h => by cases h⟩
      show r (f t) * r (f t) = (0 - t) * (0 - t) * (0 - t) + (0 - t)
      rcases hr (f t) with h | h
      · exact absurd h e
      · rw [h, ← hft, hf]
  · have mixed : ∀ t t', r (f t) * r (f t) = f t → ¬r (f t') * r (f t') = f t' → t = 0 - t' → r (f t) = r (f t') → False := fun t t' h1 h2 h3 h4 => by
      subst h3
      rw [hf, hn] at h4
      have e : r (f t') = 0 := by
        generalize r (f t') = q at h4
        have : (2 : Fin P) * q = 0 := by grobner
        rcases Fmul_zero this with h | h
        · exact absurd h two_ne
        · exact h
      apply h2
      have h5 := hr (f t')
      rw [e] at h5 ⊢
      have e0 : (0 : Fin P) * 0 = 0 := by decide +kernel
      rw [e0] at h5 ⊢
      rcases h5 with h | h
      · exact h
      · generalize f t' = z at *; clear h1 h2 h4 hf hr0 hft hr hn; grobner
    dsimp only at h
    split at h <;> split at h
    · exact congrArg Prod.fst (Option.some.inj h)
    · rename_i h1 h2
      exact absurd (mixed t t' h1 h2 (congrArg Prod.fst (Option.some.inj h)) (congrArg Prod.snd (Option.some.inj h))) id
    · rename_i h1 h2
      exact absurd (mixed t' t h2 h1 (congrArg Prod.fst (Option.some.inj h)).symm (congrArg Prod.snd (Option.some.inj h)).symm) id
    · have e : 0 - t = 0 - t' := congrArg Prod.fst (Option.some.inj h)
      clear h hf hr0 hft hr hn mixed
      grobner
  · have hy : y * y = f x := by rw [hft]; exact h
    have hx : 0 - (0 - x) = x := by clear hy h hf hr0 hft hr hn; grobner
    by_cases e : r (f x) * r (f x) = f x
    · have : (y - r (f x)) * (y + r (f x)) = 0 := by
        generalize r (f x) = q at e; generalize f x = z at e hy; clear h hf hr0 hft hr hn hx; grobner
      rcases Fmul_zero this with h1 | h1
      · refine ⟨x, ?_⟩
        dsimp only
        rw [if_pos e]
        have : r (f x) = y := by generalize r (f x) = q at h1; clear h hf hr0 hft hr hn hx e this hy; grobner
        rw [this]
      · have hyr : 0 - r (f x) = y := by generalize r (f x) = q at h1; clear h hf hr0 hft hr hn hx e this hy; grobner
        by_cases h0 : f x = 0
        · refine ⟨x, ?_⟩
          dsimp only
          rw [if_pos e]
          have r0 := hr0 x h0
          rw [r0] at hyr ⊢
          have : y = 0 := by rw [← hyr]; decide +kernel
          rw [this]
        · refine ⟨0 - x, ?_⟩
          dsimp only
          have hne : ¬ r (f (0 - x)) * r (f (0 - x)) = f (0 - x) := fun e2 => by
            rw [hf, hn] at e2
            have : (2 : Fin P) * f x = 0 := by generalize r (f x) = q at e e2; generalize f x = z at e e2; clear h hf hr0 hft hr hn hx this hy h1 h0 hyr; grobner
            rcases Fmul_zero this with h | h
            · exact two_ne h
            · exact h0 h
          rw [if_neg hne, hx, hf, hn, hyr]
    · exfalso
      rcases hr (f x) with h1 | h1
      · exact e h1
      · have : y * y + r (f x) * r (f x) = 0 := by rw [hy, h1]; generalize f x = z; clear h hf hr0 hft hr hn hx e hy; grobner
        obtain ⟨y0, r0⟩ := sq_sum this
        apply e
        rw [r0, ← hy, y0]

/-! All of them, added up -/

def csum : List Cp → Cp
  | [] => none
  | a :: l => cadd a (csum l)
theorem onC_sum (l : List Cp) (h : ∀ q ∈ l, onC q) : onC (csum l) := by
  induction l with
  | nil => trivial
  | cons a l ih => exact onC_add (h a (by simp)) (ih fun q hq => h q (by simp [hq]))
theorem csum_perm {l l' : List Cp} (p : l.Perm l') : (∀ q ∈ l, onC q) → csum l = csum l' := by
  induction p with
  | nil => intro _; rfl
  | cons a p ih => intro h; show cadd a _ = cadd a _; rw [ih fun q hq => h q (by simp [hq])]
  | swap a b l =>
    intro h
    have ha := h a (by simp); have hb := h b (by simp)
    have hl := onC_sum l fun q hq => h q (by simp [hq])
    show cadd b (cadd a (csum l)) = cadd a (cadd b (csum l))
    rw [← cadd_assoc hb ha hl, ← cadd_assoc ha hb hl, cadd_comm ha hb]
  | trans p1 p2 ih1 ih2 => intro h; rw [ih1 h, ih2 fun q hq => h q (p1.mem_iff.mpr hq)]
theorem csum_shift {a : Cp} (ha : onC a) (l : List Cp) : (∀ q ∈ l, onC q) → csum (l.map (cadd a)) = cadd (cmul a l.length) (csum l) := by
  induction l with
  | nil => intro _; rfl
  | cons b l ih =>
    intro h
    have hb := h b (by simp)
    have hl : ∀ q ∈ l, onC q := fun q hq => h q (by simp [hq])
    have hs := onC_sum l hl
    have hm := onC_mul ha l.length
    show cadd (cadd a b) (csum (l.map (cadd a))) = cadd (cadd (cmul a l.length) a) (cadd b (csum l))
    rw [ih hl, ← cadd_assoc (onC_add ha hb) hm hs, ← cadd_assoc (onC_add hm ha) hb hs, cadd_comm (onC_add ha hb) hm, cadd_assoc hm ha hb]
theorem cadd_left {a b c : Cp} (ha : onC a) (hb : onC b) (hc : onC c) (h : cadd a b = cadd a c) : b = c := by
  have hn := onC_neg ha
  have e : ∀ q, onC q → cadd (cneg a) (cadd a q) = q := fun q hq => by
    rw [← cadd_assoc hn ha hq, cadd_comm hn ha, cadd_neg]; rfl
  rw [← e b hb, h, e c hc]
theorem order_of (L : List Cp) (nd : L.Nodup) (on : ∀ q, onC q ↔ q ∈ L) {a : Cp} (ha : onC a) : cmul a L.length = none := by
  have hL : ∀ q ∈ L, onC q := fun q hq => (on q).mpr hq
  have nd' : (L.map (cadd a)).Nodup := by
    rw [List.Nodup, List.pairwise_map]
    refine List.Pairwise.imp_of_mem ?_ nd
    intro b c hb hc hbc e
    exact hbc (cadd_left ha (hL b hb) (hL c hc) e)
  have p : (L.map (cadd a)).Perm L := by
    rw [List.perm_ext_iff_of_nodup nd' nd]
    intro q
    rw [List.mem_map]
    constructor
    · rintro ⟨b, hb, rfl⟩
      exact (on _).mp (onC_add ha (hL b hb))
    · intro hq
      have hn := onC_neg ha
      refine ⟨cadd (cneg a) q, (on _).mp (onC_add hn (hL q hq)), ?_⟩
      rw [← cadd_assoc ha hn (hL q hq), cadd_neg]; rfl
  have hs := onC_sum L hL
  have e := csum_perm p fun q hq => hL q (p.mem_iff.mp hq)
  rw [csum_shift ha L hL] at e
  refine cadd_left hs (onC_mul ha _) trivial ?_
  rw [cadd_comm hs (onC_mul ha _), e, cadd_none]
theorem order {a : Cp} (ha : onC a) : cmul a (P + 1) = none := by
  obtain ⟨g, h1, h2, h3⟩ := exists_points
  have := order_of (none :: (List.finRange P).map g) ?_ ?_ ha
  · rw [List.length_cons, List.length_map, List.length_finRange] at this
    exact this
  · rw [List.nodup_cons]
    refine ⟨fun h => ?_, ?_⟩
    · obtain ⟨t, _, ht⟩ := List.mem_map.mp h
      exact (h1 t).2 ht
    · rw [List.Nodup, List.pairwise_map]
      exact List.Pairwise.imp (fun hbc e => hbc (h2 _ _ e)) (List.nodup_finRange P)
  · intro q
    cases q with
    | none => exact ⟨fun _ => List.mem_cons_self, fun _ => trivial⟩
    | some a =>
      obtain ⟨x, y⟩ := a
      constructor
      · intro h
        obtain ⟨t, ht⟩ := h3 x y h
        exact List.mem_cons_of_mem _ (List.mem_map.mpr ⟨t, List.mem_finRange t, ht⟩)
      · intro h
        rcases List.mem_cons.mp h with h | h
        · cases h
        · obtain ⟨t, _, ht⟩ := List.mem_map.mp h
          rw [← ht]
          exact (h1 t).1
end Ob
