/-
  The pairing's mathematics: ends of pairings, lines, their reciprocity, the cocycle, multiples on either side.
-/
import Derived.Test.YtlimcjpnendcdaaGen
/-! The power that ends a pairing: (P P - 1) / R, in two steps. What has no i, and i, count for nothing in it. -/
section
namespace Ob
set_option linter.unusedVariables false
set_option linter.unusedSimpArgs false

def cj (u : EE) : EE := (u.1, 0 - u.2)
def tau (u : EE) : EE := epow (epow u (P - 1)) 4
def nz (u : EE) : Prop := u ≠ zeroE

theorem one_val : one = (1, 0) := rfl
theorem cj_cj (u : EE) : cj (cj u) = u := by
  obtain ⟨a, b⟩ := u
  simp only [cj, Prod.mk.injEq]
  constructor <;> grobner
theorem cj_mul (u v : EE) : cj (emul u v) = emul (cj u) (cj v) := by
  simp only [cj, emul, Prod.mk.injEq]
  constructor <;> grobner
theorem cj_one : cj one = one := by decide +kernel
theorem cj_pow (u : EE) (n : Nat) : cj (epow u n) = epow (cj u) n := by
  induction n with
  | zero => exact cj_one
  | succ n ih => show cj (emul (epow u n) u) = emul (epow (cj u) n) (cj u); rw [cj_mul, ih]
theorem pow_P_cj (u : EE) : epow u P = cj u := by
  rw [frob]
  show (u.1, -u.2) = (u.1, 0 - u.2)
  congr 1
theorem mul_cj (u : EE) : emul u (cj u) = (u.1 * u.1 + u.2 * u.2, 0) := by
  simp only [cj, emul, Prod.mk.injEq]
  constructor <;> grobner
theorem norm_nz {u : EE} (h : nz u) : u.1 * u.1 + u.2 * u.2 ≠ 0 := fun e => h (Prod.ext (sq_sum e).1 (sq_sum e).2)
theorem exists_inv {u : EE} (h : nz u) : ∃ v, emul u v = one := by
  have hi := finv_mul (norm_nz h)
  refine ⟨emul (cj u) (finv (u.1 * u.1 + u.2 * u.2), 0), ?_⟩
  rw [← emul_assoc, mul_cj]
  generalize finv (u.1 * u.1 + u.2 * u.2) = i at *
  generalize u.1 * u.1 + u.2 * u.2 = n at *
  simp only [emul, one_val, Prod.mk.injEq]
  constructor <;> grobner
theorem emul_right {a b u : EE} (h : nz u) (e : emul a u = emul b u) : a = b := by
  obtain ⟨v, hv⟩ := exists_inv h
  have := congrArg (fun x => emul x v) e
  rw [emul_assoc, emul_assoc, hv, emul_one, emul_one] at this
  exact this
theorem zero_emul (u : EE) : emul zeroE u = zeroE := by
  simp only [emul, zeroE, Prod.mk.injEq]
  constructor <;> grobner
theorem one_nz : nz one := by unfold nz; decide +kernel
theorem nz_mul {u v : EE} (hu : nz u) (hv : nz v) : nz (emul u v) := fun e => by
  refine hu (emul_right hv (e.trans ?_))
  rw [zero_emul]
theorem nz_of_mul {u v : EE} (h : nz (emul u v)) : nz u ∧ nz v := by
  refine ⟨fun e => h ?_, fun e => h ?_⟩
  · rw [e, zero_emul]
  · rw [e, emul_comm, zero_emul]
theorem nz_pow {u : EE} (h : nz u) (n : Nat) : nz (epow u n) := by
  induction n with
  | zero => exact one_nz
  | succ n ih => exact nz_mul ih h
theorem nz_cj {u : EE} (h : nz u) : nz (cj u) := fun e => h (by rw [← cj_cj u, e]; decide +kernel)

theorem tau_mul (u v : EE) : tau (emul u v) = emul (tau u) (tau v) := by
  unfold tau
  rw [epow_emul, epow_emul]
theorem tau_one : tau one = one := by
  have h : ∀ n, epow one n = one := fun n => by
    induction n with
    | zero => rfl
    | succ n ih => show emul (epow one n) one = one; rw [ih, emul_one]
  unfold tau
  rw [h, h]
theorem tau_nz {u : EE} (h : nz u) : nz (tau u) := nz_pow (nz_pow h _) _
theorem tau_cj (u : EE) : tau (cj u) = cj (tau u) := by
  unfold tau
  rw [cj_pow, cj_pow]
theorem pow_pred {u : EE} : emul (epow u (P - 1)) u = cj u := by
  have e : epow u ((P - 1) + 1) = emul (epow u (P - 1)) u := rfl
  have e2 : (P - 1) + 1 = P := by decide +kernel
  rw [← e, e2, pow_P_cj]
theorem tau_real {c : Fin P} (h : c ≠ 0) : tau (c, 0) = one := by
  have hu : nz (c, 0) := fun e => h (congrArg Prod.fst e)
  have e : epow (c, 0) (P - 1) = one := by
    refine emul_right hu ?_
    rw [pow_pred, one_emul]
    show (c, 0 - 0) = (c, 0)
    congr 1
  unfold tau
  rw [e]
  decide +kernel
theorem tau_i : tau (0, 1) = one := by
  have e : epow (0, 1) (P - 1) = (0 - 1, 0) := by
    refine emul_right (u := (0, 1)) (by unfold nz; decide +kernel) ?_
    rw [pow_pred]
    decide +kernel
  unfold tau
  rw [e]
  decide +kernel
/-- The norm of what ends so is 1. -/
theorem pred_norm {u : EE} (h : nz u) : emul (epow u (P - 1)) (cj (epow u (P - 1))) = one := by
  have e := pow_pred (u := u)
  have e2 := congrArg cj e
  rw [cj_mul, cj_cj] at e2
  refine emul_right (nz_mul h (nz_cj h)) ?_
  rw [one_emul]
  generalize epow u (P - 1) = w at *
  calc emul (emul w (cj w)) (emul u (cj u)) = emul (emul w u) (emul (cj w) (cj u)) := by
        generalize cj w = w'; generalize cj u = u'
        rw [emul_assoc, emul_assoc, ← emul_assoc w' u u', emul_comm w' u, emul_assoc u w' u']
    _ = emul (cj u) u := by rw [e, e2]
    _ = emul u (cj u) := emul_comm _ _
theorem tau_norm {u : EE} (h : nz u) : emul (tau u) (cj (tau u)) = one := by
  unfold tau
  rw [cj_pow, ← epow_emul, pred_norm h]
  decide +kernel
theorem tau_order {u : EE} (h : nz u) : epow (tau u) 288230376287764481 = one := by
  have e : epow (epow u (P - 1)) (P + 1) = one := by
    rw [epow_add, epow_one, pow_P_cj, emul_comm]
    exact pred_norm h
  unfold tau
  rw [epow_mul]
  have e2 : 4 * 288230376287764481 = P + 1 := by decide +kernel
  rw [e2]
  exact e
/-- Two that differ by what has no i. -/
theorem tau_eq {u v : EE} (hu : nz u) (hv : nz v) (h : u.2 * v.1 = u.1 * v.2) : tau u = tau v := by
  have e : emul u (cj v) = (u.1 * v.1 + u.2 * v.2, 0) := by
    simp only [emul, cj, Prod.mk.injEq]
    constructor <;> grobner
  have hr : u.1 * v.1 + u.2 * v.2 ≠ 0 := fun e0 => by
    rw [e0] at e
    exact nz_mul hu (nz_cj hv) e
  have t := congrArg tau e
  rw [tau_mul, tau_real hr, tau_cj] at t
  refine emul_right (nz_cj (tau_nz hv)) ?_
  rw [t, tau_norm hv]
theorem tau_flip {u v : EE} (hu : nz u) (hv : nz v) (h1 : u.1 = v.2) (h2 : u.2 = v.1) : emul (tau u) (tau v) = one := by
  have e : u = emul (0, 1) (cj v) := by
    refine Prod.ext ?_ ?_
    · show u.1 = 0 * v.1 - 1 * (0 - v.2)
      rw [h1]; generalize v.1 = a; generalize v.2 = b; grobner
    · show u.2 = 0 * (0 - v.2) + 1 * v.1
      rw [h2]; generalize v.1 = a; generalize v.2 = b; grobner
  rw [e, tau_mul, tau_i, one_emul, tau_cj, emul_comm]
  exact tau_norm hv
end Ob
end

/-! Lines' values at the other side of a point, to the power that ends a pairing: they are the same from both sides,
  and make a cocycle. -/
section
namespace Ob
set_option linter.unusedVariables false
set_option linter.unusedSimpArgs false

/-- The wall's, or the line's value. -/
def lval (a b q : Cp) : EE :=
  match q with
  | none => one
  | some q =>
    match a with
    | none => one
    | some a =>
      match b with
      | none => (0 - (q.1 + a.1), 0)
      | some b => if a.1 = b.1 ∧ a.2 + b.2 = 0 then (0 - (q.1 + a.1), 0) else (slope a.1 a.2 b.1 b.2 * (q.1 + a.1) - a.2, q.2)
def lam (a b q : Cp) : EE := tau (lval a b q)
/-- No point of order 2. -/
def okQ : Cp → Prop
  | none => True
  | some q => q.2 ≠ 0

theorem wall_ne {x y X Y : Fin P} (h : y * y = x * x * x + x) (H : Y * Y = X * X * X + X) (hY : Y ≠ 0) : 0 - (X + x) ≠ 0 := fun e => by
  have hx : x = 0 - X := by clear h H hY; grobner
  subst hx
  have : y * y + Y * Y = 0 := by rw [h, H]; clear h H hY e; grobner
  exact hY (sq_sum this).2
theorem lval_nz {a b q : Cp} (ha : onC a) (hb : onC b) (hq : onC q) (ok : okQ q) : nz (lval a b q) := by
  cases q with
  | none => exact one_nz
  | some q =>
    cases a with
    | none => exact one_nz
    | some a =>
      have hw : nz ((0 - (q.1 + a.1), 0) : EE) := fun e => wall_ne ha hq ok (congrArg Prod.fst e)
      cases b with
      | none => exact hw
      | some b =>
        show nz (if a.1 = b.1 ∧ a.2 + b.2 = 0 then (0 - (q.1 + a.1), 0) else (slope a.1 a.2 b.1 b.2 * (q.1 + a.1) - a.2, q.2))
        split
        · exact hw
        · exact fun e => ok (congrArg Prod.snd e)
theorem lam_q (a b : Cp) : lam a b none = one := tau_one
theorem lam_a (b : Cp) (q : Cp) : lam none b q = one := by cases q <;> exact tau_one
theorem lam_b {a q : Cp} (ha : onC a) (hq : onC q) (ok : okQ q) : lam a none q = one := by
  cases q with
  | none => exact tau_one
  | some q =>
    cases a with
    | none => exact tau_one
    | some a => exact tau_real (wall_ne ha hq ok)
theorem lval_wall {a b q : Fin P × Fin P} (h : a.1 = b.1 ∧ a.2 + b.2 = 0) : lval (some a) (some b) (some q) = (0 - (q.1 + a.1), 0) := if_pos h
theorem lval_line {a b q : Fin P × Fin P} (h : ¬(a.1 = b.1 ∧ a.2 + b.2 = 0)) : lval (some a) (some b) (some q) = (slope a.1 a.2 b.1 b.2 * (q.1 + a.1) - a.2, q.2) := if_neg h
theorem lam_wall {a b : Fin P × Fin P} {q : Cp} (ha : onC (some a)) (hq : onC q) (ok : okQ q) (h : a.1 = b.1 ∧ a.2 + b.2 = 0) : lam (some a) (some b) q = one := by
  cases q with
  | none => exact tau_one
  | some q => unfold lam; rw [lval_wall h]; exact tau_real (wall_ne ha hq ok)
theorem lam_nz {a b q : Cp} (ha : onC a) (hb : onC b) (hq : onC q) (ok : okQ q) : nz (lam a b q) := tau_nz (lval_nz ha hb hq ok)
theorem lam_order {a b q : Cp} (ha : onC a) (hb : onC b) (hq : onC q) (ok : okQ q) : epow (lam a b q) 288230376287764481 = one := tau_order (lval_nz ha hb hq ok)

theorem slope_unique {x1 y1 x2 y2 l : Fin P} (h1 : y1 * y1 = x1 * x1 * x1 + x1) (h2 : y2 * y2 = x2 * x2 * x2 + x2) (hn : ¬(x1 = x2 ∧ y1 + y2 = 0))
    (L : y1 - y2 = l * (x1 - x2)) (V : l * (y1 + y2) = x1 * x1 + x1 * x2 + x2 * x2 + 1) : slope x1 y1 x2 y2 = l := by
  obtain ⟨L', V'⟩ := slope_spec h1 h2 hn
  by_cases hx : x1 = x2
  · have hy : y1 + y2 ≠ 0 := fun e => hn ⟨hx, e⟩
    exact Fcancel hy (V'.trans V.symm)
  · have hd : x1 - x2 ≠ 0 := fun h => hx (by clear h1 h2 L V L' V' hn hx; grobner)
    exact Fcancel hd (L'.symm.trans L)

theorem lam_comm {a b q : Cp} (ha : onC a) (hb : onC b) (hq : onC q) (ok : okQ q) : lam a b q = lam b a q := by
  cases a with
  | none => rw [lam_a, lam_b hb hq ok]
  | some a =>
    cases b with
    | none => rw [lam_a, lam_b ha hq ok]
    | some b =>
      by_cases h : a.1 = b.1 ∧ a.2 + b.2 = 0
      · have h' : b.1 = a.1 ∧ b.2 + a.2 = 0 := ⟨h.1.symm, by rw [← h.2]; generalize a.2 = x; generalize b.2 = y; grobner⟩
        rw [lam_wall ha hq ok h, lam_wall hb hq ok h']
      · have h' : ¬(b.1 = a.1 ∧ b.2 + a.2 = 0) := fun h' => h ⟨h'.1.symm, by rw [← h'.2]; generalize a.2 = x; generalize b.2 = y; grobner⟩
        cases q with
        | none => rfl
        | some q =>
          unfold lam
          rw [lval_line h, lval_line h']
          obtain ⟨L, V⟩ := slope_spec ha hb h
          obtain ⟨x1, y1⟩ := a; obtain ⟨x2, y2⟩ := b; obtain ⟨X, Y⟩ := q
          dsimp only at *
          have e : slope x2 y2 x1 y1 = slope x1 y1 x2 y2 := by
            refine slope_unique hb ha h' ?_ ?_
            · generalize slope x1 y1 x2 y2 = l at *; clear V ha hb hq ok h h'; grobner
            · generalize slope x1 y1 x2 y2 = l at *; clear L ha hb hq ok h h'; grobner
          rw [e]
          generalize slope x1 y1 x2 y2 = l at *
          have e2 : l * (X + x1) - y1 = l * (X + x2) - y2 := by clear V ha hb hq ok h h' e; grobner
          rw [e2]
theorem lval_neg (a b q : Cp) : lval a b (cneg q) = cj (lval a b q) := by
  have z : ∀ x : Fin P, ((x, 0) : EE) = cj (x, 0) := fun x => by show ((x, 0) : EE) = (x, 0 - 0); congr 1
  cases q with
  | none => exact cj_one.symm
  | some q =>
    cases a with
    | none => exact cj_one.symm
    | some a =>
      cases b with
      | none => exact z _
      | some b =>
        show (if a.1 = b.1 ∧ a.2 + b.2 = 0 then (0 - (q.1 + a.1), 0) else (slope a.1 a.2 b.1 b.2 * (q.1 + a.1) - a.2, 0 - q.2)) = cj (if a.1 = b.1 ∧ a.2 + b.2 = 0 then (0 - (q.1 + a.1), 0) else (slope a.1 a.2 b.1 b.2 * (q.1 + a.1) - a.2, q.2))
        split
        · exact z _
        · rfl
theorem lam_neg (a b q : Cp) : lam a b (cneg q) = cj (lam a b q) := by
  unfold lam
  rw [lval_neg, tau_cj]
theorem lam_norm {a b q : Cp} (ha : onC a) (hb : onC b) (hq : onC q) (ok : okQ q) : emul (lam a b q) (lam a b (cneg q)) = one := by
  rw [lam_neg]
  exact tau_norm (lval_nz ha hb hq ok)

/-! From both sides -/

theorem recip_re {X1 X2 X3 x1 x2 x3 l c k d : Fin P} (e1 : X1 + X2 + X3 = k * k) (e2 : X1 * X2 + X1 * X3 + X2 * X3 = 1 - 2 * k * d) (e3 : X1 * X2 * X3 = d * d)
    (f1 : x1 + x2 + x3 = l * l) (f2 : x1 * x2 + x1 * x3 + x2 * x3 = 1 - 2 * l * c) (f3 : x1 * x2 * x3 = c * c) :
    (l * X1 - c) * (l * X2 - c) * (l * X3 - c) - (l * X1 - c) * (k * X2 + d) * (k * X3 + d) - (k * X1 + d) * (l * X2 - c) * (k * X3 + d) - (k * X1 + d) * (k * X2 + d) * (l * X3 - c)
    = (k * x1 - d) * (k * x2 - d) * (l * x3 + c) + (k * x1 - d) * (l * x2 + c) * (k * x3 - d) + (l * x1 + c) * (k * x2 - d) * (k * x3 - d) - (l * x1 + c) * (l * x2 + c) * (l * x3 + c) := by
  grobner
theorem recip_im {X1 X2 X3 x1 x2 x3 l c k d : Fin P} (e1 : X1 + X2 + X3 = k * k) (e2 : X1 * X2 + X1 * X3 + X2 * X3 = 1 - 2 * k * d) (e3 : X1 * X2 * X3 = d * d)
    (f1 : x1 + x2 + x3 = l * l) (f2 : x1 * x2 + x1 * x3 + x2 * x3 = 1 - 2 * l * c) (f3 : x1 * x2 * x3 = c * c) :
    (l * X1 - c) * (l * X2 - c) * (k * X3 + d) + (l * X1 - c) * (k * X2 + d) * (l * X3 - c) + (k * X1 + d) * (l * X2 - c) * (l * X3 - c) - (k * X1 + d) * (k * X2 + d) * (k * X3 + d)
    = (k * x1 - d) * (k * x2 - d) * (k * x3 - d) - (k * x1 - d) * (l * x2 + c) * (l * x3 + c) - (l * x1 + c) * (k * x2 - d) * (l * x3 + c) - (l * x1 + c) * (l * x2 + c) * (k * x3 - d) := by
  grobner
/-- A product of three. -/
theorem three_re (a b c x y z : Fin P) : (emul (emul (a, x) (b, y)) (c, z)).1 = a * b * c - a * y * z - x * b * z - x * y * c := by
  show (a * b - x * y) * c - (a * y + x * b) * z = _
  grobner
theorem three_im (a b c x y z : Fin P) : (emul (emul (a, x) (b, y)) (c, z)).2 = a * b * z + a * y * c + x * b * c - x * y * z := by
  show (a * b - x * y) * z + (a * y + x * b) * c = _
  grobner

/-- What a line is: through two points, and the third one. -/
structure Line (a b : Fin P × Fin P) (l c : Fin P) (s : Fin P × Fin P) : Prop where
  sum : cadd (some a) (some b) = some s
  val : ∀ X Y : Fin P, lval (some a) (some b) (some (X, Y)) = (l * X - c, Y)
  on1 : a.2 = l * a.1 + c
  on2 : b.2 = l * b.1 + c
  on3 : 0 - s.2 = l * s.1 + c
  e1 : a.1 + b.1 + s.1 = l * l
  e2 : a.1 * b.1 + a.1 * s.1 + b.1 * s.1 = 1 - 2 * l * c
  e3 : a.1 * b.1 * s.1 = c * c
theorem line_of {a b : Fin P × Fin P} (ha : onC (some a)) (hb : onC (some b)) (h : ¬(a.1 = b.1 ∧ a.2 + b.2 = 0)) :
    ∃ s, Line a b (slope a.1 a.2 b.1 b.2) (a.2 - slope a.1 a.2 b.1 b.2 * a.1) s := by
  obtain ⟨L, V⟩ := slope_spec ha hb h
  refine ⟨lin (slope a.1 a.2 b.1 b.2) a.1 a.2 b.1, ?_⟩
  have hs : cadd (some a) (some b) = some (lin (slope a.1 a.2 b.1 b.2) a.1 a.2 b.1) := if_neg h
  have hv : ∀ X Y : Fin P, lval (some a) (some b) (some (X, Y)) = (slope a.1 a.2 b.1 b.2 * (X + a.1) - a.2, Y) := fun X Y => lval_line h
  obtain ⟨x1, y1⟩ := a; obtain ⟨x2, y2⟩ := b
  dsimp only at *
  generalize slope x1 y1 x2 y2 = l at *
  obtain ⟨v1, v2, e1, e2, e3⟩ := vieta (c := y1 - l * x1) ha L V rfl rfl
  refine ⟨hs, fun X Y => ?_, v1, v2, ?_, e1, e2, e3⟩
  · rw [hv]
    have : l * (X + x1) - y1 = l * X - (y1 - l * x1) := by clear hs hv v1 v2 e1 e2 e3 L V ha hb h; grobner
    rw [this]
  · show 0 - (l * (x1 - (l * l - x1 - x2)) - y1) = l * (l * l - x1 - x2) + (y1 - l * x1)
    clear hs hv v1 v2 e1 e2 e3 L V ha hb h
    grobner
theorem neg_of_wall {a b : Fin P × Fin P} (h : a.1 = b.1 ∧ a.2 + b.2 = 0) : some b = cneg (some a) := by
  obtain ⟨x1, y1⟩ := a; obtain ⟨x2, y2⟩ := b
  obtain ⟨h1, h2⟩ := h
  dsimp only at h1 h2
  subst h1
  show some (x1, y2) = some (x1, 0 - y1)
  have : y2 = 0 - y1 := by grobner
  rw [this]

theorem recip_line {p1 p2 s1 s2 : Fin P × Fin P} {l c k d : Fin P} {p3 s3 : Fin P × Fin P} (hp : Line p1 p2 l c p3) (hs : Line s1 s2 k d s3)
    (n1 : nz (lval (some p1) (some p2) (some s1))) (n2 : nz (lval (some p1) (some p2) (some s2))) (n3 : nz (lval (some p1) (some p2) (cneg (some s3))))
    (m1 : nz (lval (some s1) (some s2) (some p1))) (m2 : nz (lval (some s1) (some s2) (some p2))) (m3 : nz (lval (some s1) (some s2) (cneg (some p3)))) :
    emul (emul (emul (lam (some p1) (some p2) (some s1)) (lam (some p1) (some p2) (some s2))) (lam (some p1) (some p2) (cneg (some s3))))
      (emul (emul (lam (some s1) (some s2) (some p1)) (lam (some s1) (some s2) (some p2))) (lam (some s1) (some s2) (cneg (some p3)))) = one := by
  unfold lam
  rw [← tau_mul, ← tau_mul, ← tau_mul, ← tau_mul]
  refine tau_flip (nz_mul (nz_mul n1 n2) n3) (nz_mul (nz_mul m1 m2) m3) ?_ ?_
  · have v1 := hp.val s1.1 s1.2; have v2 := hp.val s2.1 s2.2; have v3 := hp.val s3.1 (0 - s3.2)
    have w1 := hs.val p1.1 p1.2; have w2 := hs.val p2.1 p2.2; have w3 := hs.val p3.1 (0 - p3.2)
    show (emul (emul (lval (some p1) (some p2) (some (s1.1, s1.2))) (lval (some p1) (some p2) (some (s2.1, s2.2)))) (lval (some p1) (some p2) (some (s3.1, 0 - s3.2)))).1
      = (emul (emul (lval (some s1) (some s2) (some (p1.1, p1.2))) (lval (some s1) (some s2) (some (p2.1, p2.2)))) (lval (some s1) (some s2) (some (p3.1, 0 - p3.2)))).2
    rw [v1, v2, v3, w1, w2, w3, three_re, three_im, hs.on1, hs.on2, hs.on3, hp.on1, hp.on2, hp.on3]
    exact recip_re hs.e1 hs.e2 hs.e3 hp.e1 hp.e2 hp.e3
  · have v1 := hp.val s1.1 s1.2; have v2 := hp.val s2.1 s2.2; have v3 := hp.val s3.1 (0 - s3.2)
    have w1 := hs.val p1.1 p1.2; have w2 := hs.val p2.1 p2.2; have w3 := hs.val p3.1 (0 - p3.2)
    show (emul (emul (lval (some p1) (some p2) (some (s1.1, s1.2))) (lval (some p1) (some p2) (some (s2.1, s2.2)))) (lval (some p1) (some p2) (some (s3.1, 0 - s3.2)))).2
      = (emul (emul (lval (some s1) (some s2) (some (p1.1, p1.2))) (lval (some s1) (some s2) (some (p2.1, p2.2)))) (lval (some s1) (some s2) (some (p3.1, 0 - p3.2)))).1
    rw [v1, v2, v3, w1, w2, w3, three_re, three_im, hs.on1, hs.on2, hs.on3, hp.on1, hp.on2, hp.on3]
    exact recip_im hs.e1 hs.e2 hs.e3 hp.e1 hp.e2 hp.e3
end Ob
end

/-! Lines' values are the same from both sides; they make a cocycle. -/
section
namespace Ob
set_option linter.unusedVariables false
set_option linter.unusedSimpArgs false

theorem emul_swap (a b c d : EE) : emul (emul a b) (emul c d) = emul (emul a c) (emul b d) := by
  rw [emul_assoc, emul_assoc, ← emul_assoc b c d, emul_comm b c, emul_assoc c b d]
theorem okQ_neg {q : Cp} (h : okQ q) : okQ (cneg q) := by
  cases q with
  | none => trivial
  | some q => exact fun e => h (by have : (0 : Fin P) - q.2 = 0 := e; generalize q.2 = y at *; clear h e; grobner)

/-- From both sides, whatever the points are. -/
theorem recip {p1 p2 s1 s2 : Cp} (hp1 : onC p1) (hp2 : onC p2) (hs1 : onC s1) (hs2 : onC s2) (op1 : okQ p1) (op2 : okQ p2) (os1 : okQ s1) (os2 : okQ s2)
    (op : okQ (cadd p1 p2)) (os : okQ (cadd s1 s2)) :
    emul (emul (lam p1 p2 s1) (lam p1 p2 s2)) (emul (lam s1 s2 p1) (lam s1 s2 p2)) = emul (lam p1 p2 (cadd s1 s2)) (lam s1 s2 (cadd p1 p2)) := by
  cases p1 with
  | none => rw [lam_a, lam_a, lam_q, lam_a, emul_one, one_emul, one_emul, one_emul]; rfl
  | some p1 =>
  cases p2 with
  | none => rw [lam_b hp1 hs1 os1, lam_b hp1 hs2 os2, lam_q, lam_b hp1 (onC_add hs1 hs2) os, emul_one, one_emul, one_emul, emul_one, cadd_none]
  | some p2 =>
  cases s1 with
  | none => rw [lam_a, lam_a, lam_q, lam_a, emul_one, one_emul, emul_one, emul_one]; rfl
  | some s1 =>
  cases s2 with
  | none => rw [lam_b hs1 hp1 op1, lam_b hs1 hp2 op2, lam_q, lam_b hs1 (onC_add hp1 hp2) op, emul_one, emul_one, emul_one, emul_one, cadd_none]
  | some s2 =>
  by_cases wp : p1.1 = p2.1 ∧ p1.2 + p2.2 = 0
  · have e : cadd (some p1) (some p2) = none := if_pos wp
    rw [e, lam_wall hp1 hs1 os1 wp, lam_wall hp1 hs2 os2 wp, lam_wall hp1 (onC_add hs1 hs2) os wp, lam_q, one_emul, one_emul, neg_of_wall wp]
    exact lam_norm hs1 hs2 hp1 op1
  by_cases ws : s1.1 = s2.1 ∧ s1.2 + s2.2 = 0
  · have e : cadd (some s1) (some s2) = none := if_pos ws
    rw [e, lam_wall hs1 hp1 op1 ws, lam_wall hs1 hp2 op2 ws, lam_wall hs1 (onC_add hp1 hp2) op ws, lam_q, one_emul, emul_one, neg_of_wall ws]
    exact lam_norm hp1 hp2 hs1 os1
  obtain ⟨p3, lp⟩ := line_of hp1 hp2 wp
  obtain ⟨s3, ls⟩ := line_of hs1 hs2 ws
  have hp3 := onC_add hp1 hp2
  have hs3 := onC_add hs1 hs2
  rw [lp.sum] at op hp3 ⊢
  rw [ls.sum] at os hs3 ⊢
  have r := recip_line lp ls (lval_nz hp1 hp2 hs1 os1) (lval_nz hp1 hp2 hs2 os2) (lval_nz hp1 hp2 (onC_neg hs3) (okQ_neg os)) (lval_nz hs1 hs2 hp1 op1) (lval_nz hs1 hs2 hp2 op2) (lval_nz hs1 hs2 (onC_neg hp3) (okQ_neg op))
  have c1 := lam_norm hp1 hp2 hs3 os
  have c2 := lam_norm hs1 hs2 hp3 op
  have n1 := lam_nz hp1 hp2 (onC_neg hs3) (okQ_neg os)
  have n2 := lam_nz hs1 hs2 (onC_neg hp3) (okQ_neg op)
  generalize lam (some p1) (some p2) (some s1) = a at *
  generalize lam (some p1) (some p2) (some s2) = b at *
  generalize lam (some s1) (some s2) (some p1) = c at *
  generalize lam (some s1) (some s2) (some p2) = d at *
  generalize lam (some p1) (some p2) (cneg (some s3)) = e' at *
  generalize lam (some p1) (some p2) (some s3) = e at *
  generalize lam (some s1) (some s2) (cneg (some p3)) = f' at *
  generalize lam (some s1) (some s2) (some p3) = f at *
  refine emul_right (nz_mul n1 n2) ?_
  rw [emul_swap e f e' f', c1, c2, one_emul, emul_swap, r]

/-! Slopes around three points -/

theorem coc_ll {xa ya xb yb xc yc l1 l3 xu yu xw yw : Fin P} (hb : yb * yb = xb * xb * xb + xb)
    (ha : ya = yb + l1 * (xa - xb)) (hc : yc = yb + l3 * (xc - xb))
    (V1 : l1 * (ya + yb) = xa * xa + xa * xb + xb * xb + 1) (V3 : l3 * (yb + yc) = xb * xb + xb * xc + xc * xc + 1)
    (hu : xu = l1 * l1 - xa - xb) (hyu : yu = l1 * (xa - xu) - ya) (hw : xw = l3 * l3 - xb - xc) (hyw : yw = l3 * (xb - xw) - yb) :
    ((l1 - l3) * (xu - xc) + (yu - yc)) * (xa - xw) = (ya - yw) * (xu - xc) := by
  subst hyu hyw hu hw ha hc; grobner
theorem coc_vl {xa ya xb yb xc yc l1 l3 xu yu xw yw : Fin P} (hb : yb * yb = xb * xb * xb + xb)
    (ha : ya = yb + l1 * (xa - xb)) (hc : yc = yb + l3 * (xc - xb))
    (V1 : l1 * (ya + yb) = xa * xa + xa * xb + xb * xb + 1) (V3 : l3 * (yb + yc) = xb * xb + xb * xc + xc * xc + 1)
    (hu : xu = l1 * l1 - xa - xb) (hyu : yu = l1 * (xa - xu) - ya) (hw : xw = l3 * l3 - xb - xc) (hyw : yw = l3 * (xb - xw) - yb) :
    ((l1 - l3) * (yu + yc) + (xu * xu + xu * xc + xc * xc + 1)) * (xa - xw) = (ya - yw) * (yu + yc) := by
  subst hyu hyw hu hw ha hc; grobner
theorem coc_vv {xa ya xb yb xc yc l1 l3 xu yu xw yw : Fin P} (hb : yb * yb = xb * xb * xb + xb)
    (ha : ya = yb + l1 * (xa - xb)) (hc : yc = yb + l3 * (xc - xb))
    (V1 : l1 * (ya + yb) = xa * xa + xa * xb + xb * xb + 1) (V3 : l3 * (yb + yc) = xb * xb + xb * xc + xc * xc + 1)
    (hu : xu = l1 * l1 - xa - xb) (hyu : yu = l1 * (xa - xu) - ya) (hw : xw = l3 * l3 - xb - xc) (hyw : yw = l3 * (xb - xw) - yb) :
    ((l1 - l3) * (yu + yc) + (xu * xu + xu * xc + xc * xc + 1)) * (ya + yw) = (xa * xa + xa * xw + xw * xw + 1) * (yu + yc) := by
  subst hyu hyw hu hw ha hc; grobner
theorem coc_lv {xa ya xb yb xc yc l1 l3 xu yu xw yw : Fin P} (hb : yb * yb = xb * xb * xb + xb)
    (ha : ya = yb + l1 * (xa - xb)) (hc : yc = yb + l3 * (xc - xb))
    (V1 : l1 * (ya + yb) = xa * xa + xa * xb + xb * xb + 1) (V3 : l3 * (yb + yc) = xb * xb + xb * xc + xc * xc + 1)
    (hu : xu = l1 * l1 - xa - xb) (hyu : yu = l1 * (xa - xu) - ya) (hw : xw = l3 * l3 - xb - xc) (hyw : yw = l3 * (xb - xw) - yb) :
    ((l1 - l3) * (xu - xc) + (yu - yc)) * (ya + yw) = (xa * xa + xa * xw + xw * xw + 1) * (xu - xc) := by
  subst hyu hyw hu hw ha hc; grobner
/-- The slopes' sums are the same. -/
theorem coc_slopes {xa ya xb yb xc yc l1 l2 l3 l4 xu yu xw yw : Fin P} (hb : yb * yb = xb * xb * xb + xb)
    (ha : ya = yb + l1 * (xa - xb)) (hc : yc = yb + l3 * (xc - xb))
    (V1 : l1 * (ya + yb) = xa * xa + xa * xb + xb * xb + 1) (V3 : l3 * (yb + yc) = xb * xb + xb * xc + xc * xc + 1)
    (hu : xu = l1 * l1 - xa - xb) (hyu : yu = l1 * (xa - xu) - ya) (hw : xw = l3 * l3 - xb - xc) (hyw : yw = l3 * (xb - xw) - yb)
    (L2 : yu - yc = l2 * (xu - xc)) (V2 : l2 * (yu + yc) = xu * xu + xu * xc + xc * xc + 1)
    (L4 : ya - yw = l4 * (xa - xw)) (V4 : l4 * (ya + yw) = xa * xa + xa * xw + xw * xw + 1)
    (n2 : ¬(xu = xc ∧ yu + yc = 0)) (n4 : ¬(xa = xw ∧ ya + yw = 0)) : l1 + l2 = l3 + l4 := by
  have c1 := coc_ll hb ha hc V1 V3 hu hyu hw hyw
  have c2 := coc_vl hb ha hc V1 V3 hu hyu hw hyw
  have c3 := coc_lv hb ha hc V1 V3 hu hyu hw hyw
  have c4 := coc_vv hb ha hc V1 V3 hu hyu hw hyw
  clear hb ha hc V1 V3 hu hyu hw hyw
  rw [L2, L4] at c1
  rw [← V2, L4] at c2
  rw [L2, ← V4] at c3
  rw [← V2, ← V4] at c4
  clear L2 V2 L4 V4
  have two : ∀ {p q : Fin P}, ¬(p = 0 ∧ q = 0) → p ≠ 0 ∨ q ≠ 0 := fun {p q} h => by
    by_cases hp : p = 0
    · exact Or.inr fun hq => h ⟨hp, hq⟩
    · exact Or.inl hp
  have h2 := two (p := xu - xc) (q := yu + yc) (fun h => n2 ⟨by have := h.1; clear c1 c2 c3 c4 n2 n4 h two; grobner, h.2⟩)
  have h4 := two (p := xa - xw) (q := ya + yw) (fun h => n4 ⟨by have := h.1; clear c1 c2 c3 c4 n2 n4 h two h2; grobner, h.2⟩)
  clear n2 n4 two
  have fin : ∀ {p q : Fin P}, p ≠ 0 → q ≠ 0 → ((l1 - l3) * p + l2 * p) * q = l4 * q * p → l1 + l2 = l3 + l4 := fun {p q} hp hq h => by
    refine Fcancel hp (Fcancel hq ?_)
    clear c1 c2 c3 c4 h2 h4 hp hq
    grobner
  rcases h2 with h2 | h2
  · rcases h4 with h4 | h4
    · exact fin h2 h4 c1
    · exact fin h2 h4 c3
  · rcases h4 with h4 | h4
    · exact fin h2 h4 c2
    · exact fin h2 h4 c4

theorem coc_lin {xa xb xc xs xu xw l1 l2 l3 l4 : Fin P} (hd : l1 + l2 = l3 + l4)
    (e1 : xa + xb + xu = l1 * l1) (e2 : xu + xc + xs = l2 * l2) (e3 : xb + xc + xw = l3 * l3) (e4 : xa + xw + xs = l4 * l4) :
    xa - xc = (l1 + l2) * (l1 - l3) ∧ xb - xs = (l1 + l2) * (l3 - l2) ∧ xu - xw = (l1 - l3) * (l3 - l2) ∧
      xa + xb + xc + xs + 2 * (xu + l1 * l2) = (l1 + l2) * (l1 + l2) ∧ xa + xb + xc + xs + 2 * xu = l1 * l1 + l2 * l2 ∧ xa + xb + xc + xs + 2 * xw = l3 * l3 + l4 * l4 := by
  obtain rfl : l4 = l1 + l2 - l3 := by clear e1 e2 e3 e4; grobner
  obtain rfl : xu = l1 * l1 - xa - xb := by clear e2 e3 e4 hd; grobner
  obtain rfl : xs = l2 * l2 - (l1 * l1 - xa - xb) - xc := by clear e1 e3 e4 hd; grobner
  obtain rfl : xw = l3 * l3 - xb - xc := by clear e1 e2 e4 hd; grobner
  clear e1 e2 e3 hd
  have ac : xa - xc = (l1 + l2) * (l1 - l3) := by refine Fcancel two_ne ?_; grobner
  obtain rfl : xa = xc + (l1 + l2) * (l1 - l3) := by clear e4; grobner
  clear e4 ac
  refine ⟨?_, ?_, ?_, ?_, ?_, ?_⟩ <;> grobner

/-- Four lines around three points: A B -U, U C -S, B C -W, A W -S. -/
theorem coc_quot {xa xb xc xs xu xw yu yw l1 l2 l3 l4 : Fin P} (hd : l1 + l2 = l3 + l4)
    (e1 : xa + xb + xu = l1 * l1) (e2 : xu + xc + xs = l2 * l2) (e3 : xb + xc + xw = l3 * l3) (e4 : xa + xw + xs = l4 * l4)
    (f1 : xa * xb + xa * xu + xb * xu = 1 + 2 * l1 * (yu + l1 * xu)) (f2 : xu * xc + xu * xs + xc * xs = 1 - 2 * l2 * (yu - l2 * xu))
    (f3 : xb * xc + xb * xw + xc * xw = 1 + 2 * l3 * (yw + l3 * xw)) (f4 : xa * xw + xa * xs + xw * xs = 1 - 2 * l4 * (yw - l4 * xw)) :
    xu + l1 * l2 = xw + l3 * l4 ∧ xu * xu - l1 * l2 * xu + yu * (l1 - l2) = xw * xw - l3 * l4 * xw + yw * (l3 - l4) := by
  obtain ⟨ac, bs, uw, sg, q12, q34⟩ := coc_lin hd e1 e2 e3 e4
  clear e1 e2 e3 e4
  have s : xu + l1 * l2 = xw + l3 * l4 := by
    obtain rfl : l4 = l1 + l2 - l3 := by clear f1 f2 f3 f4 ac bs uw sg q12 q34; grobner
    clear f1 f2 f3 f4 ac bs sg q12 q34 hd
    grobner
  refine ⟨s, ?_⟩
  have fs : 2 * (yu * (l1 - l2) - yw * (l3 - l4)) = (xa - xc) * (xb - xs) + (xu - xw) * (xa + xb + xc + xs) - 2 * xu * (l1 * l1 + l2 * l2) + 2 * xw * (l3 * l3 + l4 * l4) := by
    have g1 : (xa * xb + xa * xu + xb * xu) + (xu * xc + xu * xs + xc * xs) - (xb * xc + xb * xw + xc * xw) - (xa * xw + xa * xs + xw * xs) = (xa - xc) * (xb - xs) + (xu - xw) * (xa + xb + xc + xs) := by
      clear f1 f2 f3 f4 ac bs uw sg q12 q34 s hd; grobner
    rw [f1, f2, f3, f4] at g1
    rw [← g1]
    clear f1 f2 f3 f4 ac bs uw sg q12 q34 s hd g1
    grobner
  rw [ac, bs, ← q12, ← q34] at fs
  have fu : (l1 + l2) * (l1 - l3) * ((l1 + l2) * (l3 - l2)) = (xa + xb + xc + xs + 2 * (xu + l1 * l2)) * (xu - xw) := by
    rw [sg, uw]; clear fs f1 f2 f3 f4 ac bs s q12 q34 sg uw hd; grobner
  rw [fu] at fs
  clear f1 f2 f3 f4 ac bs q12 q34 sg uw fu hd
  generalize xa + xb + xc + xs = S at *
  have s2 : l3 * l4 = xu + l1 * l2 - xw := by clear fs; grobner
  refine Fcancel two_ne ?_
  rw [s2]
  clear s s2
  generalize l1 * l2 = m at *
  have : (xu * xu - m * xu + yu * (l1 - l2)) * 2 - (xw * xw - (xu + m - xw) * xw + yw * (l3 - l4)) * 2 = 2 * (yu * (l1 - l2) - yw * (l3 - l4)) + (2 * xu * xu - 2 * m * xu - 2 * xw * xw + 2 * (xu + m - xw) * xw) := by clear fs; grobner
  rw [fs] at this
  clear fs
  grobner
end Ob
end

/-! Lines' values, to the power that ends a pairing, are a cocycle. -/
section
namespace Ob
set_option linter.unusedVariables false
set_option linter.unusedSimpArgs false

theorem V_of {x1 x2 x3 l c : Fin P} (e1 : x1 + x2 + x3 = l * l) (e2 : x1 * x2 + x1 * x3 + x2 * x3 = 1 - 2 * l * c) :
    l * ((l * x1 + c) + (l * x2 + c)) = x1 * x1 + x1 * x2 + x2 * x2 + 1 := by
  have h : l * ((l * x1 + c) + (l * x2 + c)) = l * l * (x1 + x2) + 2 * l * c := by clear e1 e2; grobner
  have h2 : 2 * l * c = 1 - (x1 * x2 + x1 * x3 + x2 * x3) := by rw [e2]; clear h e1 e2; grobner
  rw [h, h2, ← e1]
  clear h h2 e1 e2
  grobner

theorem quot {X xu yu l1 l2 : Fin P} (hu : yu * yu = xu * xu * xu + xu) :
    (l1 * (X + xu) + yu) * (l2 * (X + xu) - yu) - (X * X * X + X) = 0 - (X + xu) * (X * X + 1 - X * (xu + l1 * l2) + (xu * xu - l1 * l2 * xu + yu * (l1 - l2))) := by
  grobner
theorem coc_im {X Y xu yu xw yw l1 l2 l3 l4 : Fin P} (hY : Y * Y = X * X * X + X) (hu : yu * yu = xu * xu * xu + xu) (hw : yw * yw = xw * xw * xw + xw) (hd : l1 + l2 = l3 + l4)
    (s : xu + l1 * l2 = xw + l3 * l4) (q : xu * xu - l1 * l2 * xu + yu * (l1 - l2) = xw * xw - l3 * l4 * xw + yw * (l3 - l4)) :
    (emul (l1 * (X + xu) + yu, Y) (l2 * (X + xu) - yu, Y)).2 * (emul (l3 * (X + xw) + yw, Y) (l4 * (X + xw) - yw, Y)).1
    = (emul (l1 * (X + xu) + yu, Y) (l2 * (X + xu) - yu, Y)).1 * (emul (l3 * (X + xw) + yw, Y) (l4 * (X + xw) - yw, Y)).2 := by
  have a := quot (X := X) (l1 := l1) (l2 := l2) hu
  have b := quot (X := X) (l1 := l3) (l2 := l4) hw
  rw [s, q] at a
  rw [← hY] at a b
  have u1 : (emul (l1 * (X + xu) + yu, Y) (l2 * (X + xu) - yu, Y)).1 = 0 - (X + xu) * (X * X + 1 - X * (xw + l3 * l4) + (xw * xw - l3 * l4 * xw + yw * (l3 - l4))) := a
  have v1 : (emul (l3 * (X + xw) + yw, Y) (l4 * (X + xw) - yw, Y)).1 = 0 - (X + xw) * (X * X + 1 - X * (xw + l3 * l4) + (xw * xw - l3 * l4 * xw + yw * (l3 - l4))) := b
  have u2 : (emul (l1 * (X + xu) + yu, Y) (l2 * (X + xu) - yu, Y)).2 = (l1 + l2) * ((X + xu) * Y) := by
    show (l1 * (X + xu) + yu) * Y + Y * (l2 * (X + xu) - yu) = _
    clear a b u1 v1 hY hu hw hd s q; grobner
  have v2 : (emul (l3 * (X + xw) + yw, Y) (l4 * (X + xw) - yw, Y)).2 = (l3 + l4) * ((X + xw) * Y) := by
    show (l3 * (X + xw) + yw) * Y + Y * (l4 * (X + xw) - yw) = _
    clear a b u1 v1 u2 hY hu hw hd s q; grobner
  rw [u1, v1, u2, v2, hd]
  clear a b u1 v1 u2 v2 hY hu hw hd s q
  generalize X * X + 1 - X * (xw + l3 * l4) + (xw * xw - l3 * l4 * xw + yw * (l3 - l4)) = k
  grobner

theorem coc_gen {a b c u w s q : Fin P × Fin P} {l1 l2 l3 l4 c1 c2 c3 c4 : Fin P} (hb : onC (some b)) (hq : onC (some q)) (hu : onC (some u)) (hw : onC (some w)) (ok : okQ (some q))
    (h1 : Line a b l1 c1 u) (h2 : Line u c l2 c2 s) (h3 : Line b c l3 c3 w) (h4 : Line a w l4 c4 s)
    (n2 : ¬(u.1 = c.1 ∧ u.2 + c.2 = 0)) (n4 : ¬(a.1 = w.1 ∧ a.2 + w.2 = 0)) :
    emul (lam (some a) (some b) (some q)) (lam (some u) (some c) (some q)) = emul (lam (some b) (some c) (some q)) (lam (some a) (some w) (some q)) := by
  have hd : l1 + l2 = l3 + l4 := by
    have V1 := V_of h1.e1 h1.e2
    have V2 := V_of h2.e1 h2.e2
    have V3 := V_of h3.e1 h3.e2
    have V4 := V_of h4.e1 h4.e2
    rw [← h1.on1, ← h1.on2] at V1
    rw [← h2.on1, ← h2.on2] at V2
    rw [← h3.on1, ← h3.on2] at V3
    rw [← h4.on1, ← h4.on2] at V4
    refine coc_slopes hb ?_ ?_ V1 V3 ?_ ?_ ?_ ?_ ?_ V2 ?_ V4 n2 n4
    · rw [h1.on1, h1.on2]; clear V1 V2 V3 V4; grobner
    · rw [h3.on1, h3.on2]; clear V1 V2 V3 V4; grobner
    · rw [← h1.e1]; clear V1 V2 V3 V4; grobner
    · have e := h1.on3; rw [h1.on1]; clear V1 V2 V3 V4; grobner
    · rw [← h3.e1]; clear V1 V2 V3 V4; grobner
    · have e := h3.on3; rw [h3.on1]; clear V1 V2 V3 V4; grobner
    · rw [h2.on1, h2.on2]; clear V1 V2 V3 V4; grobner
    · rw [h4.on1, h4.on2]; clear V1 V2 V3 V4; grobner
  have k1 : c1 = 0 - u.2 - l1 * u.1 := by have e := h1.on3; grobner
  have k2 : c2 = u.2 - l2 * u.1 := by have e := h2.on1; grobner
  have k3 : c3 = 0 - w.2 - l3 * w.1 := by have e := h3.on3; grobner
  have k4 : c4 = w.2 - l4 * w.1 := by have e := h4.on2; grobner
  obtain ⟨es, eq⟩ := coc_quot (yu := u.2) (yw := w.2) hd h1.e1 h2.e1 h3.e1 h4.e1
    (by rw [h1.e2, k1]; grobner) (by rw [h2.e2, k2]) (by rw [h3.e2, k3]; grobner) (by rw [h4.e2, k4])
  have im := coc_im hq hu hw hd es eq
  have v1 := h1.val q.1 q.2; have v2 := h2.val q.1 q.2; have v3 := h3.val q.1 q.2; have v4 := h4.val q.1 q.2
  have e1 : l1 * q.1 - c1 = l1 * (q.1 + u.1) + u.2 := by rw [k1]; grobner
  have e2 : l2 * q.1 - c2 = l2 * (q.1 + u.1) - u.2 := by rw [k2]; grobner
  have e3 : l3 * q.1 - c3 = l3 * (q.1 + w.1) + w.2 := by rw [k3]; grobner
  have e4 : l4 * q.1 - c4 = l4 * (q.1 + w.1) - w.2 := by rw [k4]; grobner
  rw [e1] at v1; rw [e2] at v2; rw [e3] at v3; rw [e4] at v4
  have n : ∀ x : Fin P, nz (x, q.2) := fun x e => ok (congrArg Prod.snd e)
  show emul (tau (lval (some a) (some b) (some (q.1, q.2)))) (tau (lval (some u) (some c) (some (q.1, q.2)))) = emul (tau (lval (some b) (some c) (some (q.1, q.2)))) (tau (lval (some a) (some w) (some (q.1, q.2))))
  rw [v1, v2, v3, v4, ← tau_mul, ← tau_mul]
  exact tau_eq (nz_mul (n _) (n _)) (nz_mul (n _) (n _)) im
end Ob
end

/-! The cocycle, whatever the points are. -/
section
namespace Ob
set_option linter.unusedVariables false
set_option linter.unusedSimpArgs false

/-- The value of a line that is known by its slope. -/
theorem lval_slope {x1 y1 x2 y2 l X Y : Fin P} (h1 : y1 * y1 = x1 * x1 * x1 + x1) (h2 : y2 * y2 = x2 * x2 * x2 + x2) (hn : ¬(x1 = x2 ∧ y1 + y2 = 0))
    (L : y1 - y2 = l * (x1 - x2)) (V : l * (y1 + y2) = x1 * x1 + x1 * x2 + x2 * x2 + 1) : lval (some (x1, y1)) (some (x2, y2)) (some (X, Y)) = (l * (X + x1) - y1, Y) := by
  rw [lval_line (a := (x1, y1)) (b := (x2, y2)) (q := (X, Y)) hn]
  show (slope x1 y1 x2 y2 * (X + x1) - y1, Y) = _
  rw [slope_unique h1 h2 hn L V]

/-- The line through -B and B + C is the other one's image. -/
theorem lam_mirror {b c w q : Fin P × Fin P} {l k : Fin P} (hb : onC (some b)) (hc : onC (some c)) (hq : onC (some q)) (ok : okQ (some q)) (h : Line b c l k w) :
    emul (lam (some b) (some c) (some q)) (lam (cneg (some b)) (some w) (some q)) = one := by
  have hw : onC (some w) := by rw [← h.sum]; exact onC_add hb hc
  have hn : ¬(b.1 = w.1 ∧ (0 - b.2) + w.2 = 0) := fun e => by
    have e2 : w.2 = b.2 := by have := e.2; grobner
    have ew : w = b := Prod.ext e.1.symm e2
    have hs := h.sum
    rw [ew] at hs
    have := cadd_left hb hc (show onC none from trivial) (hs.trans (cadd_none _).symm)
    cases this
  have hnb := onC_neg hb
  have V := V_of (x1 := b.1) (x2 := w.1) (x3 := c.1) (l := l) (c := k) (by rw [← h.e1]; grobner) (by rw [← h.e2]; grobner)
  have o1 := h.on1
  have o3 := h.on3
  have v := lval_slope (x1 := b.1) (y1 := 0 - b.2) (x2 := w.1) (y2 := w.2) (l := 0 - l) (X := q.1) (Y := q.2) hnb hw hn (by clear V; grobner) (by
    rw [← V]
    have e : l * ((l * b.1 + k) + (l * w.1 + k)) = l * (b.2 + (0 - w.2)) := by rw [← o1, ← o3]
    rw [e]; clear V e o1 o3; grobner)
  have u := h.val q.1 q.2
  show emul (tau (lval (some b) (some c) (some (q.1, q.2)))) (tau (lval (some (b.1, 0 - b.2)) (some w) (some (q.1, q.2)))) = one
  have v' : lval (some (b.1, 0 - b.2)) (some w) (some (q.1, q.2)) = ((0 - l) * (q.1 + b.1) - (0 - b.2), q.2) := v
  rw [u, v']
  have n : ∀ x : Fin P, nz (x, q.2) := fun x e => ok (congrArg Prod.snd e)
  have e : tau ((0 - l) * (q.1 + b.1) - (0 - b.2), q.2) = tau (cj (l * q.1 - k, q.2)) := by
    refine tau_eq (n _) (nz_cj (n _)) ?_
    show q.2 * (l * q.1 - k) = ((0 - l) * (q.1 + b.1) - (0 - b.2)) * (0 - q.2)
    rw [o1]; clear V v v' u o1 o3; grobner
  rw [e, tau_cj]
  exact tau_norm (n _)
/-- The line through B and -(A + B) is the one through A and B. -/
theorem lam_third {a b u q : Fin P × Fin P} {l k : Fin P} (ha : onC (some a)) (hb : onC (some b)) (hq : onC (some q)) (h : Line a b l k u) (hn : ¬(b.1 = u.1 ∧ b.2 + (0 - u.2) = 0)) :
    lam (some b) (cneg (some u)) (some q) = lam (some a) (some b) (some q) := by
  have hu : onC (some u) := by rw [← h.sum]; exact onC_add ha hb
  have hnu := onC_neg hu
  have V := V_of (x1 := b.1) (x2 := u.1) (x3 := a.1) (l := l) (c := k) (by rw [← h.e1]; grobner) (by rw [← h.e2]; grobner)
  have o2 := h.on2
  have o3 := h.on3
  rw [← o2, ← o3] at V
  have v := lval_slope (x1 := b.1) (y1 := b.2) (x2 := u.1) (y2 := 0 - u.2) (l := l) (X := q.1) (Y := q.2) hb hnu hn (by clear V; grobner) V
  have e := h.val q.1 q.2
  show tau (lval (some (b.1, b.2)) (some (u.1, 0 - u.2)) (some (q.1, q.2))) = tau (lval (some a) (some b) (some (q.1, q.2)))
  rw [v, e]
  have : l * (q.1 + b.1) - b.2 = l * q.1 - k := by rw [o2]; clear V v e o2 o3; grobner
  rw [this]

/-- The case of A + B = none. -/
theorem coc_wall {a b c q : Fin P × Fin P} (ha : onC (some a)) (hb : onC (some b)) (hc : onC (some c)) (hq : onC (some q)) (ok : okQ (some q)) (h : a.1 = b.1 ∧ a.2 + b.2 = 0) :
    emul (lam (some a) (some b) (some q)) (lam (cadd (some a) (some b)) (some c) (some q)) = emul (lam (some b) (some c) (some q)) (lam (some a) (cadd (some b) (some c)) (some q)) := by
  have e : cadd (some a) (some b) = none := if_pos h
  rw [e, lam_wall ha hq ok h, lam_a, emul_one]
  have h' : b.1 = a.1 ∧ b.2 + a.2 = 0 := ⟨h.1.symm, by rw [← h.2]; grobner⟩
  have ea := neg_of_wall h'
  by_cases hw : b.1 = c.1 ∧ b.2 + c.2 = 0
  · have e2 : cadd (some b) (some c) = none := if_pos hw
    rw [e2, lam_wall hb hq ok hw, lam_b ha hq ok, emul_one]
  · obtain ⟨w, lw⟩ := line_of hb hc hw
    rw [lw.sum, ea]
    exact (lam_mirror hb hc hq ok lw).symm

theorem coc {a b c q : Cp} (ha : onC a) (hb : onC b) (hc : onC c) (hq : onC q) (ok : okQ q) :
    emul (lam a b q) (lam (cadd a b) c q) = emul (lam b c q) (lam a (cadd b c) q) := by
  cases q with
  | none => rw [lam_q, lam_q, lam_q, lam_q]
  | some q =>
  cases a with
  | none => rw [lam_a, lam_a, one_emul, emul_one]; rfl
  | some a =>
  cases b with
  | none => rw [lam_a, lam_b ha hq ok, cadd_none]; rfl
  | some b =>
  cases c with
  | none => rw [lam_b hb hq ok, lam_b (onC_add ha hb) hq ok, cadd_none, emul_one, one_emul]
  | some c =>
  by_cases w1 : a.1 = b.1 ∧ a.2 + b.2 = 0
  · exact coc_wall ha hb hc hq ok w1
  by_cases w3 : b.1 = c.1 ∧ b.2 + c.2 = 0
  · have w3' : c.1 = b.1 ∧ c.2 + b.2 = 0 := ⟨w3.1.symm, by rw [← w3.2]; grobner⟩
    have r := coc_wall hc hb ha hq ok w3'
    rw [lam_comm hc hb hq ok, cadd_comm hc hb, lam_comm (onC_add hb hc) ha hq ok, lam_comm hb ha hq ok, cadd_comm hb ha, lam_comm hc (onC_add ha hb) hq ok] at r
    exact r.symm
  obtain ⟨u, lu⟩ := line_of ha hb w1
  obtain ⟨w, lw⟩ := line_of hb hc w3
  have hu : onC (some u) := by rw [← lu.sum]; exact onC_add ha hb
  have hw : onC (some w) := by rw [← lw.sum]; exact onC_add hb hc
  have as := cadd_assoc ha hb hc
  rw [lu.sum, lw.sum] at as
  rw [lu.sum, lw.sum]
  by_cases w2 : u.1 = c.1 ∧ u.2 + c.2 = 0
  · have e : cadd (some u) (some c) = none := if_pos w2
    rw [e] at as
    have w4 : a.1 = w.1 ∧ a.2 + w.2 = 0 := by
      by_cases h : a.1 = w.1 ∧ a.2 + w.2 = 0
      · exact h
      · have : cadd (some a) (some w) = some _ := if_neg h
        rw [this] at as
        cases as
    rw [lam_wall hu hq ok w2, lam_wall ha hq ok w4, emul_one, emul_one]
    have ec := neg_of_wall w2
    have hn : ¬(b.1 = u.1 ∧ b.2 + (0 - u.2) = 0) := fun h => by
      refine w3 ⟨h.1.trans w2.1, ?_⟩
      have h1 := h.2; have h2 := w2.2
      clear w1 w3 lu lw hu hw as e w2 w4 ec
      grobner
    rw [ec, lam_third ha hb hq lu hn]
  · have w4 : ¬(a.1 = w.1 ∧ a.2 + w.2 = 0) := fun h => by
      have e : cadd (some a) (some w) = none := if_pos h
      have e2 : cadd (some u) (some c) = some _ := if_neg w2
      rw [e, e2] at as
      cases as
    obtain ⟨s, l2⟩ := line_of hu hc w2
    obtain ⟨s', l4⟩ := line_of ha hw w4
    rw [l2.sum, l4.sum] at as
    cases as
    exact coc_gen hb hq hu hw ok lu l2 lw l4 w2 w4
end Ob
end

/-! The pairing, as a product of lines' values: on either side a multiple is a power. -/
section
namespace Ob
set_option linter.unusedVariables false
set_option linter.unusedSimpArgs false

abbrev R0 : Nat := 288230376287764481
/-- A point of order R. -/
def inR (q : Cp) : Prop := onC q ∧ cmul q R0 = none
attribute [local irreducible] cmul

theorem cmul_zero (a : Cp) : cmul a 0 = none := by unfold cmul; rfl
theorem cmul_succ (a : Cp) (n : Nat) : cmul a (n + 1) = cadd (cmul a n) a := by conv => lhs; unfold cmul
theorem cmul_none (n : Nat) : cmul none n = none := by
  induction n with
  | zero => exact cmul_zero _
  | succ n ih => rw [cmul_succ, ih]; rfl
theorem cmul_cadd {a b : Cp} (ha : onC a) (hb : onC b) (n : Nat) : cmul (cadd a b) n = cadd (cmul a n) (cmul b n) := by
  induction n with
  | zero => rw [cmul_zero, cmul_zero, cmul_zero]; rfl
  | succ n ih =>
    have h1 := onC_mul ha n; have h2 := onC_mul hb n
    rw [cmul_succ, cmul_succ, cmul_succ, ih, cadd_assoc h1 h2 (onC_add ha hb), ← cadd_assoc h2 ha hb, cadd_comm h2 ha, cadd_assoc ha h2 hb, ← cadd_assoc h1 ha (onC_add h2 hb)]
theorem inR_add {a b : Cp} (ha : inR a) (hb : inR b) : inR (cadd a b) := ⟨onC_add ha.1 hb.1, by rw [cmul_cadd ha.1 hb.1, ha.2, hb.2]; rfl⟩
theorem inR_mul {a : Cp} (ha : inR a) (n : Nat) : inR (cmul a n) := ⟨onC_mul ha.1 n, by rw [cmul_mul ha.1, Nat.mul_comm, ← cmul_mul ha.1, ha.2, cmul_none]⟩
theorem inR_none : inR none := ⟨trivial, cmul_none _⟩
theorem okQ_of {q : Cp} (h : inR q) : okQ q := by
  cases q with
  | none => trivial
  | some q =>
    obtain ⟨x, y⟩ := q
    intro e
    have hy : y = 0 := e
    subst hy
    have two : cadd (some (x, 0)) (some (x, 0)) = none := if_pos ⟨rfl, show (0 : Fin P) + 0 = 0 by decide +kernel⟩
    have h2 := h.2
    have er : R0 = 2 * 144115188143882240 + 1 := by decide +kernel
    rw [er, cmul_succ, ← cmul_mul h.1, cmul_two, two, cmul_none] at h2
    cases h2

/-- The product of the lines' values on the way to n A. -/
def mill (a q : Cp) : Nat → EE
  | 0 => one
  | n + 1 => emul (mill a q n) (lam (cmul a n) a q)
theorem mill_nz {a q : Cp} (ha : onC a) (hq : inR q) (n : Nat) : nz (mill a q n) := by
  induction n with
  | zero => exact one_nz
  | succ n ih => exact nz_mul ih (lam_nz (onC_mul ha n) ha hq.1 (okQ_of hq))
theorem one_pow (n : Nat) : epow one n = one := by
  induction n with
  | zero => rfl
  | succ n ih => show emul (epow one n) one = one; rw [ih, emul_one]
theorem mill_order {a q : Cp} (ha : onC a) (hq : inR q) (n : Nat) : epow (mill a q n) R0 = one := by
  induction n with
  | zero => exact one_pow _
  | succ n ih =>
    show epow (emul (mill a q n) (lam (cmul a n) a q)) R0 = one
    rw [epow_emul, ih, one_emul]
    exact lam_order (onC_mul ha n) ha hq.1 (okQ_of hq)
theorem mill_none (q : Cp) (n : Nat) : mill none q n = one := by
  induction n with
  | zero => rfl
  | succ n ih =>
    show emul (mill none q n) (lam (cmul none n) none q) = one
    rw [ih, cmul_none, lam_a, emul_one]
theorem mill_q (a : Cp) (n : Nat) : mill a none n = one := by
  induction n with
  | zero => rfl
  | succ n ih =>
    show emul (mill a none n) (lam (cmul a n) a none) = one
    rw [ih, lam_q, emul_one]
theorem mill_add {a q : Cp} (ha : onC a) (hq : inR q) (m n : Nat) : mill a q (m + n) = emul (emul (mill a q m) (mill a q n)) (lam (cmul a m) (cmul a n) q) := by
  have ok := okQ_of hq
  induction n with
  | zero =>
    show mill a q m = emul (emul (mill a q m) one) (lam (cmul a m) (cmul a 0) q)
    rw [cmul_zero, lam_b (onC_mul ha m) hq.1 ok, emul_one, emul_one]
  | succ n ih =>
    have hm := onC_mul ha m; have hn := onC_mul ha n
    show emul (mill a q (m + n)) (lam (cmul a (m + n)) a q) = emul (emul (mill a q m) (emul (mill a q n) (lam (cmul a n) a q))) (lam (cmul a m) (cmul a (n + 1)) q)
    have c := coc hm hn ha hq.1 ok
    rw [ih, cmul_add ha, cmul_succ a n, emul_assoc (emul (mill a q m) (mill a q n)), c]
    generalize mill a q m = x
    generalize mill a q n = y
    generalize lam (cmul a n) a q = z
    generalize lam (cmul a m) (cadd (cmul a n) a) q = v
    rw [← emul_assoc, ← emul_assoc]
theorem mill_two {a q : Cp} (ha : onC a) (hq : inR q) (m : Nat) : mill a q (2 * m) = emul (emul (mill a q m) (mill a q m)) (lam (cmul a m) (cmul a m) q) := by
  rw [Nat.two_mul, mill_add ha hq]
theorem mill_one (a q : Cp) : mill a q 1 = one := by
  show emul one (lam (cmul a 0) a q) = one
  rw [cmul_zero, lam_a, emul_one]
theorem mill_mul {a q : Cp} (ha : onC a) (hq : inR q) (m n : Nat) : mill a q (m * n) = emul (epow (mill a q m) n) (mill (cmul a m) q n) := by
  induction n with
  | zero => exact (emul_one _).symm
  | succ n ih =>
    rw [Nat.mul_succ, mill_add ha hq, ih]
    show _ = emul (emul (epow (mill a q m) n) (mill a q m)) (emul (mill (cmul a m) q n) (lam (cmul (cmul a m) n) (cmul a m) q))
    rw [cmul_mul ha]
    generalize epow (mill a q m) n = x
    generalize mill (cmul a m) q n = y
    generalize mill a q m = z
    generalize lam (cmul a (m * n)) (cmul a m) q = v
    rw [emul_assoc x y z, emul_comm y z, ← emul_assoc x z y, emul_assoc]

/-- The pairing. -/
def tate (a q : Cp) : EE := mill a q R0
theorem tate_order {a q : Cp} (ha : onC a) (hq : inR q) : epow (tate a q) R0 = one := mill_order ha hq R0
theorem tate_first {a q : Cp} (ha : inR a) (hq : inR q) (k : Nat) : tate (cmul a k) q = epow (tate a q) k := by
  have e1 := mill_mul ha.1 hq k R0
  have e2 := mill_mul ha.1 hq R0 k
  rw [mill_order ha.1 hq, one_emul] at e1
  rw [ha.2, mill_none, emul_one, Nat.mul_comm] at e2
  exact e1.symm.trans e2
theorem mill_second {a q1 q2 : Cp} (ha : inR a) (h1 : inR q1) (h2 : inR q2) (n : Nat) :
    emul (emul (mill a q1 n) (mill a q2 n)) (epow (lam q1 q2 a) n) = emul (mill a (cadd q1 q2) n) (lam q1 q2 (cmul a n)) := by
  have oa := okQ_of ha
  have o1 := okQ_of h1; have o2 := okQ_of h2; have o3 := okQ_of (inR_add h1 h2)
  induction n with
  | zero =>
    show emul (emul one one) one = emul one (lam q1 q2 (cmul a 0))
    rw [cmul_zero, lam_q]; rfl
  | succ n ih =>
    have hn := inR_mul ha n
    have on := okQ_of hn
    have os : okQ (cadd (cmul a n) a) := okQ_of (inR_add hn ha)
    have r := recip hn.1 ha.1 h1.1 h2.1 on oa o1 o2 os o3
    show emul (emul (emul (mill a q1 n) (lam (cmul a n) a q1)) (emul (mill a q2 n) (lam (cmul a n) a q2))) (emul (epow (lam q1 q2 a) n) (lam q1 q2 a))
      = emul (emul (mill a (cadd q1 q2) n) (lam (cmul a n) a (cadd q1 q2))) (lam q1 q2 (cmul a (n + 1)))
    rw [cmul_succ]
    generalize mill a q1 n = x at *
    generalize mill a q2 n = y at *
    generalize mill a (cadd q1 q2) n = z at *
    generalize epow (lam q1 q2 a) n = p at *
    generalize lam (cmul a n) a q1 = d1 at *
    generalize lam (cmul a n) a q2 = d2 at *
    generalize lam q1 q2 a = g at *
    generalize lam q1 q2 (cmul a n) = k at *
    generalize lam (cmul a n) a (cadd q1 q2) = d3 at *
    generalize lam q1 q2 (cadd (cmul a n) a) = k3 at *
    calc emul (emul (emul x d1) (emul y d2)) (emul p g) = emul (emul (emul x y) p) (emul (emul d1 d2) g) := by
          rw [emul_swap x d1 y d2, emul_swap (emul x y) (emul d1 d2) p g]
      _ = emul (emul z k) (emul (emul d1 d2) g) := by rw [ih]
      _ = emul z (emul (emul d1 d2) (emul k g)) := by
          rw [emul_assoc z k, emul_comm k (emul (emul d1 d2) g), emul_assoc (emul d1 d2) g k, emul_comm g k]
      _ = emul z (emul d3 k3) := by rw [r]
      _ = emul (emul z d3) k3 := (emul_assoc _ _ _).symm
theorem tate_second {a q1 q2 : Cp} (ha : inR a) (h1 : inR q1) (h2 : inR q2) : tate a (cadd q1 q2) = emul (tate a q1) (tate a q2) := by
  have e := mill_second ha h1 h2 R0
  rw [lam_order h1.1 h2.1 ha.1 (okQ_of ha), ha.2, lam_q, emul_one, emul_one] at e
  exact e.symm
theorem tate_second_mul {a q : Cp} (ha : inR a) (hq : inR q) (k : Nat) : tate a (cmul q k) = epow (tate a q) k := by
  induction k with
  | zero => rw [cmul_zero]; exact mill_q a _
  | succ k ih => rw [cmul_succ, tate_second ha (inR_mul hq k) hq, ih]; rfl
theorem tate_mul {g : Cp} (hg : inR g) (j k : Nat) : tate (cmul g j) (cmul g k) = epow (tate g g) (j * k) := by
  rw [tate_first hg (inR_mul hg k), tate_second_mul hg hg, epow_mul, Nat.mul_comm]
theorem epow_mod {u : EE} (h : epow u R0 = one) (n : Nat) : epow u n = epow u (n % R0) := by
  conv => lhs; rw [← Nat.div_add_mod n R0]
  rw [epow_add, ← epow_mul, h, one_pow, one_emul]
theorem inR_gen : inR genP := ⟨onC_gen, gen_order⟩
end Ob
end
