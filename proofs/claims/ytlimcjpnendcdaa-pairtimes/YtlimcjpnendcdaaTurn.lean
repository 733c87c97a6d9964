/-
  The turn of a pairing, step by step: as package pair takes it, and as the document does.
-/
import Derived.Test.YtlimcjpnendcdaaTateG
import Derived.Test.YtlimcjpnendcdaaEuclid
namespace Ob
set_option linter.unusedVariables false
set_option linter.unusedSimpArgs false
attribute [local irreducible] cmul

/-- Multiples of a point of order R, below R. -/
theorem cmul_ne {a : Cp} (ha : inR a) (h : a ≠ none) {m : Nat} (h0 : 0 < m) (hm : m < R0) : cmul a m ≠ none := fun e => by
  have hp : Prime R0 := primeR
  have hg : Nat.gcd R0 m = 1 := hp.gcd_one (by rw [Nat.mod_eq_of_lt hm]; omega)
  obtain ⟨X, hX, hXX⟩ := inverse_exists (m := R0) (by decide) hg
  rw [show 1 % R0 = 1 from by decide] at hXX
  have e2 : cmul a (m * X) = none := by rw [← cmul_mul ha.1, e, cmul_none]
  have e1 := Nat.div_add_mod (X * m) R0
  rw [hXX] at e1
  rw [Nat.mul_comm, ← e1, cmul_succ, ← cmul_mul ha.1, ha.2, cmul_none, none_cadd] at e2
  exact h e2

theorem econj_cj (u : EE) : econj u = cj u := by rw [← frob_conj, pow_P_cj]
theorem tau_pow (u : EE) (n : Nat) : tau (epow u n) = epow (tau u) n := by
  unfold tau
  rw [epow_mul, epow_mul, epow_mul, epow_mul]
  congr 1
  rw [← Nat.mul_assoc (P - 1) 4 n, Nat.mul_comm]
theorem double_ne {y : Fin P} (h : y ≠ 0) : y + y ≠ 0 := fun e => by
  have : 2 * y = 0 := by clear h; grobner
  rcases Fmul_zero this with h2 | h2
  · exact two_ne h2
  · exact h h2

/-! As package pair takes it -/

def rise (a b : Fin P × Fin P) : Fin P := if a = b then 3 * (a.1 * a.1) + 1 else a.2 - b.2
def run (a b : Fin P × Fin P) : Fin P := if a = b then a.2 + a.2 else a.1 - b.1
def cline (a b q : Fin P × Fin P) : EE := (rise a b * (q.1 + a.1) - run a b * a.2, run a b * q.2)
theorem rise_run {a b : Fin P × Fin P} (ha : onC (some a)) (hb : onC (some b)) (oka : a.2 ≠ 0) (hw : ¬(a.1 = b.1 ∧ a.2 + b.2 = 0)) :
    run a b ≠ 0 ∧ rise a b = slope a.1 a.2 b.1 b.2 * run a b := by
  obtain ⟨x, y⟩ := a
  obtain ⟨x', y'⟩ := b
  have h1 : y * y = x * x * x + x := ha
  have h2 : y' * y' = x' * x' * x' + x' := hb
  have hw' : ¬(x = x' ∧ y + y' = 0) := hw
  unfold rise run slope
  by_cases e : (x, y) = (x', y')
  · rw [if_pos e, if_pos e]
    have e1 : x = x' := congrArg Prod.fst e
    have hy : y + y ≠ 0 := double_ne oka
    have hi := finv_mul hy
    refine ⟨hy, ?_⟩
    show 3 * (x * x) + 1 = (if x = x' then (3 * (x * x) + 1) * finv (y + y) else (y - y') * finv (x - x')) * (y + y)
    rw [if_pos e1]
    generalize finv (y + y) = i at *
    clear e e1 h1 h2 hw hw' ha hb hy oka
    grobner
  · rw [if_neg e, if_neg e]
    have hx : x ≠ x' := fun e1 => by
      subst e1
      have : (y - y') * (y + y') = 0 := by clear hw hw' ha hb oka e; grobner
      rcases Fmul_zero this with h | h
      · refine e (congrArg (Prod.mk x) ?_)
        clear hw hw' ha hb oka e this h1 h2
        grobner
      · exact hw' ⟨rfl, h⟩
    have hd : x - x' ≠ 0 := fun h => hx (by clear hw hw' ha hb oka e hx h1 h2; grobner)
    have hi := finv_mul hd
    refine ⟨hd, ?_⟩
    show y - y' = (if x = x' then (3 * (x * x) + 1) * finv (y + y) else (y - y') * finv (x - x')) * (x - x')
    rw [if_neg hx]
    generalize finv (x - x') = i at *
    clear e hx h1 h2 hw hw' ha hb hd oka
    grobner
theorem cline_tau {a b q : Fin P × Fin P} (ha : onC (some a)) (hb : onC (some b)) (hq : onC (some q)) (oka : a.2 ≠ 0) (ok : q.2 ≠ 0) :
    nz (cline a b q) ∧ tau (cline a b q) = lam (some a) (some b) (some q) := by
  by_cases hw : a.1 = b.1 ∧ a.2 + b.2 = 0
  · have hne : ¬ a = b := fun e => by
      subst e
      exact double_ne oka hw.2
    have hwall := wall_ne ha hq ok
    have ec : cline a b q = ((a.2 + a.2) * (q.1 + a.1), 0) := by
      unfold cline rise run
      rw [if_neg hne, if_neg hne]
      obtain ⟨x, y⟩ := a
      obtain ⟨x', y'⟩ := b
      obtain ⟨X, Y⟩ := q
      have h1 : x = x' := hw.1
      have h2 : y + y' = 0 := hw.2
      show ((y - y') * (X + x) - (x - x') * y, (x - x') * Y) = ((y + y) * (X + x), 0)
      subst h1
      clear hw hwall ha hb hq oka ok hne
      refine Prod.ext ?_ ?_
      · show (y - y') * (X + x) - (x - x) * y = (y + y) * (X + x)
        grobner
      · show (x - x) * Y = 0
        clear h2
        grobner
    have hr : (a.2 + a.2) * (q.1 + a.1) ≠ 0 := fun e => by
      rcases Fmul_zero e with h | h
      · exact double_ne oka h
      · exact hwall (by rw [h]; decide +kernel)
    rw [ec]
    exact ⟨fun e => hr (congrArg Prod.fst e), by rw [tau_real hr, lam_wall ha hq ok hw]⟩
  · obtain ⟨hrun, hrise⟩ := rise_run ha hb oka hw
    have hu : nz (cline a b q) := fun e => by
      have : run a b * q.2 = 0 := congrArg Prod.snd e
      rcases Fmul_zero this with h | h
      · exact hrun h
      · exact ok h
    refine ⟨hu, ?_⟩
    unfold lam
    refine tau_eq hu (lval_nz ha hb hq ok) ?_
    rw [lval_line hw]
    show run a b * q.2 * (slope a.1 a.2 b.1 b.2 * (q.1 + a.1) - a.2) = (rise a b * (q.1 + a.1) - run a b * a.2) * q.2
    rw [hrise]
    generalize slope a.1 a.2 b.1 b.2 = l
    generalize run a b = n
    generalize q.1 = X
    generalize q.2 = Y
    generalize a.1 = x
    generalize a.2 = y
    clear hu hrun hrise hw ha hb hq oka ok
    grobner

/-- One step of the turn: f after m. -/
structure Turned (a q : Cp) (m : Nat) (f : EE) : Prop where
  nz : nz f
  tau : tau f = mill a q m
theorem Turned.first (a q : Cp) : Turned a q 1 one := ⟨one_nz, by rw [tau_one, mill_one]⟩
theorem Turned.two {a q T : Fin P × Fin P} {m : Nat} {f : EE} (h : Turned (some a) (some q) m f) (ha : inR (some a)) (hq : inR (some q)) (hT : cmul (some a) m = some T) :
    Turned (some a) (some q) (2 * m) (emul (emul f f) (cline T T q)) := by
  have hTR : inR (some T) := by rw [← hT]; exact inR_mul ha m
  have hc := cline_tau hTR.1 hTR.1 hq.1 (okQ_of hTR) (okQ_of hq)
  refine ⟨nz_mul (nz_mul h.nz h.nz) hc.1, ?_⟩
  rw [tau_mul, tau_mul, h.tau, hc.2, mill_two ha.1 hq, hT]
theorem Turned.more {a q T : Fin P × Fin P} {m : Nat} {f : EE} (h : Turned (some a) (some q) m f) (ha : inR (some a)) (hq : inR (some q)) (hT : cmul (some a) m = some T) :
    Turned (some a) (some q) (m + 1) (emul f (cline T a q)) := by
  have hTR : inR (some T) := by rw [← hT]; exact inR_mul ha m
  have hc := cline_tau hTR.1 ha.1 hq.1 (okQ_of hTR) (okQ_of hq)
  refine ⟨nz_mul h.nz hc.1, ?_⟩
  rw [tau_mul, h.tau, hc.2]
  show _ = emul (mill (some a) (some q) m) (lam (cmul (some a) m) (some a) (some q))
  rw [hT]
theorem Turned.ends {a q : Cp} {f : EE} (h : Turned a q R0 f) : Ob.tau f = tate a q := h.tau
/-- How package pair ends it. -/
theorem reduced_tau {f r : EE} (hf : Ob.nz f) (hr : emul r f = one) : epow (emul (econj f) r) 4 = Ob.tau f := by
  have e : emul (econj f) r = epow f (P - 1) := by
    refine emul_right hf ?_
    rw [emul_assoc, hr, emul_one, pow_pred, econj_cj]
  unfold Ob.tau
  rw [e]

/-! As the document takes it -/

def wval (t : Cp) (q : Fin P × Fin P) : EE :=
  match t with
  | none => one
  | some t => (0 - (q.1 + t.1), 0)
def overE (a b : EE) : EE := emul a (emul (epow (epow b P) (P - 1)) (epow b (P - 2)))
theorem wval_tau {t : Cp} {q : Fin P × Fin P} (ht : onC t) (hq : onC (some q)) (ok : q.2 ≠ 0) : Ob.nz (wval t q) ∧ Ob.tau (wval t q) = one := by
  cases t with
  | none => exact ⟨one_nz, tau_one⟩
  | some t =>
    have h := wall_ne ht hq ok
    exact ⟨fun e => h (congrArg Prod.fst e), tau_real h⟩
theorem over_tau {a b : EE} (ha : Ob.nz a) (hb : Ob.nz b) (h : Ob.tau b = one) : Ob.nz (overE a b) ∧ Ob.tau (overE a b) = Ob.tau a := by
  refine ⟨nz_mul ha (nz_mul (nz_pow (nz_pow hb _) _) (nz_pow hb _)), ?_⟩
  unfold overE
  rw [tau_mul, tau_mul, tau_pow, tau_pow, tau_pow, h, one_pow, one_pow, one_pow, emul_one, emul_one]
theorem Turned.rtwo {a q : Fin P × Fin P} {m : Nat} {f : EE} (h : Turned (some a) (some q) m f) (ha : inR (some a)) (hq : inR (some q)) :
    Turned (some a) (some q) (2 * m) (overE (emul (emul f f) (lval (cmul (some a) m) (cmul (some a) m) (some q))) (wval (cadd (cmul (some a) m) (cmul (some a) m)) q)) := by
  have hT := onC_mul ha.1 m
  have hl := lval_nz hT hT hq.1 (okQ_of hq)
  have hw := wval_tau (onC_add hT hT) hq.1 (okQ_of hq)
  have ho := over_tau (nz_mul (nz_mul h.nz h.nz) hl) hw.1 hw.2
  refine ⟨ho.1, ?_⟩
  rw [ho.2, tau_mul, tau_mul, h.tau, mill_two ha.1 hq]
  rfl
theorem Turned.rmore {a q : Fin P × Fin P} {m : Nat} {f : EE} (h : Turned (some a) (some q) m f) (ha : inR (some a)) (hq : inR (some q)) :
    Turned (some a) (some q) (m + 1) (overE (emul f (lval (cmul (some a) m) (some a) (some q))) (wval (cadd (cmul (some a) m) (some a)) q)) := by
  have hT := onC_mul ha.1 m
  have hl := lval_nz hT ha.1 hq.1 (okQ_of hq)
  have hw := wval_tau (onC_add hT ha.1) hq.1 (okQ_of hq)
  have ho := over_tau (nz_mul h.nz hl) hw.1 hw.2
  refine ⟨ho.1, ?_⟩
  rw [ho.2, tau_mul, h.tau]
  rfl
end Ob
