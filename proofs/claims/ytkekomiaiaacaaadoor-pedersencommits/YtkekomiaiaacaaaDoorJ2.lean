/-
  Joined texts: The Edwards curve's points are a group. The Edwards curve's points are a group: sums are points, and go in any order. Multiples of the Edwards curve's points; how many points there are at most. Numbers modulo R as Fin RE: what the document's own sums and products answer; points as pairs of numbers. Points with a third number beneath both coordinates, and their sums. The walks of package edwards: numbers modulo R, points, their sums. The Edwards curve: the first point is of order S; 4 S times any point is 0. The walks of package edwards: sums, opposites, multiples, points of order S. The walk of package edwards' multiples. Two points compared. Roots modulo R by the way of Tonelli and Shanks: what holds at every round; that there are just two of them. The points of one Y: what X times X is, which X there are, odd and even; multiples bit by bit. The points that numbers of 64 bits tell: Y, and whether X is odd.
-/
import Derived.Test.YtkekomiaiaacaaaDoorJ1

namespace Ob
set_option linter.unusedVariables false
set_option linter.unusedSimpArgs false

theorem ge_on {x1 y1 x2 y2 d : Fin RE} (h1 : y1 * y1 = 1 + x1 * x1 + d * (x1 * x1 * (y1 * y1))) (h2 : y2 * y2 = 1 + x2 * x2 + d * (x2 * x2 * (y2 * y2))) :
    (y1 * y2 + x1 * x2) * (y1 * y2 + x1 * x2) * ((1 + d * (x1 * x2 * (y1 * y2))) * (1 + d * (x1 * x2 * (y1 * y2))))
    = ((1 + d * (x1 * x2 * (y1 * y2))) * (1 - d * (x1 * x2 * (y1 * y2)))) * ((1 + d * (x1 * x2 * (y1 * y2))) * (1 - d * (x1 * x2 * (y1 * y2))))
      + (x1 * y2 + y1 * x2) * (x1 * y2 + y1 * x2) * ((1 - d * (x1 * x2 * (y1 * y2))) * (1 - d * (x1 * x2 * (y1 * y2))))
      + d * ((x1 * y2 + y1 * x2) * (x1 * y2 + y1 * x2) * ((y1 * y2 + x1 * x2) * (y1 * y2 + x1 * x2))) := by
  grobner
theorem ge_x {x1 y1 x2 y2 x3 y3 d : Fin RE}
    (h1 : y1 * y1 = 1 + x1 * x1 + d * (x1 * x1 * (y1 * y1))) (h2 : y2 * y2 = 1 + x2 * x2 + d * (x2 * x2 * (y2 * y2))) (h3 : y3 * y3 = 1 + x3 * x3 + d * (x3 * x3 * (y3 * y3))) :
    ((x1 * y2 + y1 * x2) * (1 - d * (x1 * x2 * (y1 * y2))) * y3 + (y1 * y2 + x1 * x2) * (1 + d * (x1 * x2 * (y1 * y2))) * x3) * ((1 + d * (x2 * x3 * (y2 * y3))) * (1 - d * (x2 * x3 * (y2 * y3))) + d * ((x2 * y3 + y2 * x3) * (y2 * y3 + x2 * x3) * x1 * y1))
    = (x1 * (y2 * y3 + x2 * x3) * (1 + d * (x2 * x3 * (y2 * y3))) + y1 * (x2 * y3 + y2 * x3) * (1 - d * (x2 * x3 * (y2 * y3)))) * ((1 + d * (x1 * x2 * (y1 * y2))) * (1 - d * (x1 * x2 * (y1 * y2))) + d * ((x1 * y2 + y1 * x2) * (y1 * y2 + x1 * x2) * x3 * y3)) := by
  grobner
theorem ge_y {x1 y1 x2 y2 x3 y3 d : Fin RE}
    (h1 : y1 * y1 = 1 + x1 * x1 + d * (x1 * x1 * (y1 * y1))) (h2 : y2 * y2 = 1 + x2 * x2 + d * (x2 * x2 * (y2 * y2))) (h3 : y3 * y3 = 1 + x3 * x3 + d * (x3 * x3 * (y3 * y3))) :
    ((y1 * y2 + x1 * x2) * (1 + d * (x1 * x2 * (y1 * y2))) * y3 + (x1 * y2 + y1 * x2) * (1 - d * (x1 * x2 * (y1 * y2))) * x3) * ((1 + d * (x2 * x3 * (y2 * y3))) * (1 - d * (x2 * x3 * (y2 * y3))) - d * ((x2 * y3 + y2 * x3) * (y2 * y3 + x2 * x3) * x1 * y1))
    = (y1 * (y2 * y3 + x2 * x3) * (1 + d * (x2 * x3 * (y2 * y3))) + x1 * (x2 * y3 + y2 * x3) * (1 - d * (x2 * x3 * (y2 * y3)))) * ((1 + d * (x1 * x2 * (y1 * y2))) * (1 - d * (x1 * x2 * (y1 * y2))) - d * ((x1 * y2 + y1 * x2) * (y1 * y2 + x1 * x2) * x3 * y3)) := by
  grobner
end Ob

namespace Ob
set_option linter.unusedVariables false
set_option linter.unusedSimpArgs false

theorem quot_on {t1 t2 a b n1 n2 d : Fin RE} (h1 : t1 * a = n1) (h2 : t2 * b = n2) (ha : a ≠ 0) (hb : b ≠ 0)
    (h : n2 * n2 * (a * a) = (a * b) * (a * b) + n1 * n1 * (b * b) + d * (n1 * n1 * (n2 * n2))) : t2 * t2 = 1 + t1 * t1 + d * (t1 * t1 * (t2 * t2)) := by
  subst h1 h2
  refine Gcancel ha (Gcancel ha (Gcancel hb (Gcancel hb ?_)))
  clear ha hb
  grobner
theorem onG_add {u v : Ep} (hu : onG u) (hv : onG v) : onG (gadd u v) := by
  have h := Gsum_add hu hv
  have e := ge_on hu hv
  exact quot_on h.1 h.2 (gden1 hu hv) (gden2 hu hv) e
theorem onG_zero : onG gzero := by show (1 : Fin RE) * 1 = 1 + 0 * 0 + 439 * (0 * 0 * (1 * 1)); decide +kernel
theorem onG_neg {u : Ep} (hu : onG u) : onG (gneg u) := by
  unfold onG gneg at *
  dsimp only at *
  generalize u.1 = x at *
  generalize u.2 = y at *
  generalize (439 : Fin RE) = d at *
  grobner
theorem gk_comm (u v : Ep) : gk u v = gk v u := by
  unfold gk
  generalize u.1 = a; generalize u.2 = b; generalize v.1 = c; generalize v.2 = e; generalize (439 : Fin RE) = d
  grobner
theorem gadd_comm (u v : Ep) : gadd u v = gadd v u := by
  unfold gadd
  rw [gk_comm u v]
  generalize gk v u = k
  refine Prod.ext ?_ ?_
  · show (u.1 * v.2 + u.2 * v.1) * ginv (1 + k) = (v.1 * u.2 + v.2 * u.1) * ginv (1 + k)
    generalize ginv (1 + k) = i; generalize u.1 = a; generalize u.2 = b; generalize v.1 = c; generalize v.2 = e
    grobner
  · show (u.2 * v.2 + u.1 * v.1) * ginv (1 - k) = (v.2 * u.2 + v.1 * u.1) * ginv (1 - k)
    generalize ginv (1 - k) = i; generalize u.1 = a; generalize u.2 = b; generalize v.1 = c; generalize v.2 = e
    grobner
theorem gadd_zero {u : Ep} (hu : onG u) : gadd u gzero = u := by
  refine Gsum_unique hu onG_zero (Gsum_add hu onG_zero) ?_
  unfold Gsum gk gzero
  dsimp only
  generalize u.1 = a; generalize u.2 = b; generalize (439 : Fin RE) = d
  constructor <;> grobner
theorem zero_gadd {u : Ep} (hu : onG u) : gadd gzero u = u := by rw [gadd_comm]; exact gadd_zero hu
theorem gadd_neg {u : Ep} (hu : onG u) : gadd u (gneg u) = gzero := by
  refine Gsum_unique hu (onG_neg hu) (Gsum_add hu (onG_neg hu)) ?_
  unfold onG at hu
  unfold Gsum gk gzero gneg
  dsimp only
  generalize u.1 = a at *; generalize u.2 = b at *; generalize (439 : Fin RE) = d at *
  constructor
  · clear hu; grobner
  · grobner
/-- One coordinate of a sum of a sum. -/
theorem gnest1 {p1 p2 k n1 n2 w1 w2 t d : Fin RE} (e1 : p1 * (1 + k) = n1) (e2 : p2 * (1 - k) = n2) (h : t * (1 + d * (p1 * w1 * (p2 * w2))) = p1 * w2 + p2 * w1) :
    t * ((1 + k) * (1 - k) + d * (n1 * n2 * w1 * w2)) = n1 * (1 - k) * w2 + n2 * (1 + k) * w1 := by
  subst e1 e2
  have : t * ((1 + k) * (1 - k) + d * (p1 * (1 + k) * (p2 * (1 - k)) * w1 * w2)) = t * (1 + d * (p1 * w1 * (p2 * w2))) * ((1 + k) * (1 - k)) := by clear h; grobner
  rw [this, h]; clear h this; grobner
theorem gnest2 {p1 p2 k n1 n2 w1 w2 t d : Fin RE} (e1 : p1 * (1 + k) = n1) (e2 : p2 * (1 - k) = n2) (h : t * (1 - d * (p1 * w1 * (p2 * w2))) = p2 * w2 + p1 * w1) :
    t * ((1 + k) * (1 - k) - d * (n1 * n2 * w1 * w2)) = n2 * (1 + k) * w2 + n1 * (1 - k) * w1 := by
  subst e1 e2
  have : t * ((1 + k) * (1 - k) - d * (p1 * (1 + k) * (p2 * (1 - k)) * w1 * w2)) = t * (1 - d * (p1 * w1 * (p2 * w2))) * ((1 + k) * (1 - k)) := by clear h; grobner
  rw [this, h]; clear h this; grobner
theorem gnestne1 {p1 p2 k n1 n2 w1 w2 d : Fin RE} (e1 : p1 * (1 + k) = n1) (e2 : p2 * (1 - k) = n2) (h1 : 1 + k ≠ 0) (h2 : 1 - k ≠ 0) (h : 1 + d * (p1 * w1 * (p2 * w2)) ≠ 0) :
    (1 + k) * (1 - k) + d * (n1 * n2 * w1 * w2) ≠ 0 := fun e => by
  subst e1 e2
  have : (1 + k) * ((1 - k) * (1 + d * (p1 * w1 * (p2 * w2)))) = 0 := by rw [← e]; clear e; grobner
  rcases Gmul_zero this with a | a
  · exact h1 a
  rcases Gmul_zero a with a | a
  · exact h2 a
  · exact h a
theorem gnestne2 {p1 p2 k n1 n2 w1 w2 d : Fin RE} (e1 : p1 * (1 + k) = n1) (e2 : p2 * (1 - k) = n2) (h1 : 1 + k ≠ 0) (h2 : 1 - k ≠ 0) (h : 1 - d * (p1 * w1 * (p2 * w2)) ≠ 0) :
    (1 + k) * (1 - k) - d * (n1 * n2 * w1 * w2) ≠ 0 := fun e => by
  subst e1 e2
  have : (1 + k) * ((1 - k) * (1 - d * (p1 * w1 * (p2 * w2)))) = 0 := by rw [← e]; clear e; grobner
  rcases Gmul_zero this with a | a
  · exact h1 a
  rcases Gmul_zero a with a | a
  · exact h2 a
  · exact h a
theorem gcross {t t' D D' N N' : Fin RE} (h : t * D = N) (h' : t' * D' = N') (e : N * D' = N' * D) (hD : D ≠ 0) (hD' : D' ≠ 0) : t = t' := by
  refine Gcancel hD (Gcancel hD' ?_)
  subst h h'
  clear hD hD'
  grobner
theorem gadd_assoc {u v w : Ep} (hu : onG u) (hv : onG v) (hw : onG w) : gadd (gadd u v) w = gadd u (gadd v w) := by
  have hp := onG_add hu hv
  have hq := onG_add hv hw
  have h1 := Gsum_add hu hv
  have h2 := Gsum_add hp hw
  have h3 := Gsum_add hv hw
  have h4 := Gsum_add hq hu
  rw [gadd_comm u (gadd v w)]
  have dp1 := gden1 hp hw; have dp2 := gden2 hp hw; have dq1 := gden1 hq hu; have dq2 := gden2 hq hu
  have du1 := gden1 hu hv; have du2 := gden2 hu hv; have dv1 := gden1 hv hw; have dv2 := gden2 hv hw
  have ex := ge_x hu hv hw
  have ey := ge_y hu hv hw
  generalize gadd (gadd u v) w = t at *
  generalize gadd (gadd v w) u = t' at *
  generalize gadd u v = p at *
  generalize gadd v w = q at *
  obtain ⟨x1, y1⟩ := u; obtain ⟨x2, y2⟩ := v; obtain ⟨x3, y3⟩ := w
  obtain ⟨p1, p2⟩ := p; obtain ⟨q1, q2⟩ := q; obtain ⟨t1, t2⟩ := t; obtain ⟨s1, s2⟩ := t'
  dsimp only [Gsum, onG, gk] at *
  generalize (439 : Fin RE) = d at *
  refine Prod.ext ?_ ?_
  · refine gcross (gnest1 h1.1 h1.2 h2.1) (gnest1 h3.1 h3.2 h4.1) ?_ (gnestne1 h1.1 h1.2 du1 du2 dp1) (gnestne1 h3.1 h3.2 dv1 dv2 dq1)
    clear h1 h2 h3 h4 dp1 dp2 dq1 dq2 du1 du2 dv1 dv2 hu hv hw hp hq ey
    refine (Eq.trans ?_ ex).trans ?_ <;> (clear ex; grobner)
  · refine gcross (gnest2 h1.1 h1.2 h2.2) (gnest2 h3.1 h3.2 h4.2) ?_ (gnestne2 h1.1 h1.2 du1 du2 dp2) (gnestne2 h3.1 h3.2 dv1 dv2 dq2)
    clear h1 h2 h3 h4 dp1 dp2 dq1 dq2 du1 du2 dv1 dv2 hu hv hw hp hq ex
    refine (Eq.trans ?_ ey).trans ?_ <;> (clear ey; grobner)
end Ob

namespace Ob
set_option linter.unusedVariables false
set_option linter.unusedSimpArgs false

def gmul (u : Ep) : Nat → Ep
  | 0 => gzero
  | n + 1 => gadd (gmul u n) u
theorem onG_mul {u : Ep} (hu : onG u) : ∀ n, onG (gmul u n)
  | 0 => onG_zero
  | n + 1 => onG_add (onG_mul hu n) hu
theorem gmul_one {u : Ep} (hu : onG u) : gmul u 1 = u := zero_gadd hu
theorem gmul_add {u : Ep} (hu : onG u) (m : Nat) : ∀ n, gmul u (m + n) = gadd (gmul u m) (gmul u n)
  | 0 => (gadd_zero (onG_mul hu m)).symm
  | n + 1 => by
    show gadd (gmul u (m + n)) u = gadd (gmul u m) (gadd (gmul u n) u)
    rw [gmul_add hu m n, gadd_assoc (onG_mul hu m) (onG_mul hu n) hu]
theorem gmul_zero : ∀ n, gmul gzero n = gzero
  | 0 => rfl
  | n + 1 => by
    show gadd (gmul gzero n) gzero = gzero
    rw [gmul_zero n, gadd_zero onG_zero]
theorem gmul_mul {u : Ep} (hu : onG u) (m : Nat) : ∀ n, gmul (gmul u m) n = gmul u (m * n)
  | 0 => rfl
  | n + 1 => by
    show gadd (gmul (gmul u m) n) (gmul u m) = gmul u (m * n + m)
    rw [gmul_mul hu m n, gmul_add hu]
theorem gmul_two {u : Ep} (hu : onG u) : gmul u 2 = gadd u u := by
  show gadd (gadd gzero u) u = gadd u u
  rw [zero_gadd hu]
theorem gadd_left {a b c : Ep} (ha : onG a) (hb : onG b) (hc : onG c) (h : gadd a b = gadd a c) : b = c := by
  have hn := onG_neg ha
  have e : ∀ q, onG q → gadd (gneg a) (gadd a q) = q := fun q hq => by
    rw [← gadd_assoc hn ha hq, gadd_comm (gneg a) a, gadd_neg ha, zero_gadd hq]
  rw [← e b hb, h, e c hc]
/-- A common divisor's multiple is 0 where both's are. -/
theorem gmul_gcd {u : Ep} (hu : onG u) (m n : Nat) : gmul u m = gzero → gmul u n = gzero → gmul u (Nat.gcd m n) = gzero := by
  induction m, n using Nat.gcd.induction with
  | H0 n => intro _ h; rwa [Nat.gcd_zero_left]
  | H1 m n hm ih =>
    intro h1 h2
    rw [Nat.gcd_rec]
    refine ih ?_ h1
    have e : n = m * (n / m) + n % m := (Nat.div_add_mod n m).symm
    rw [e, gmul_add hu, ← gmul_mul hu, h1, gmul_zero, zero_gadd (onG_mul hu _)] at h2
    have e2 : (m * (n / m) + n % m) % m = n % m := by rw [Nat.mul_add_mod, Nat.mod_mod]
    exact h2

/-! All of them, added up -/
def gsum : List Ep → Ep
  | [] => gzero
  | a :: l => gadd a (gsum l)
theorem onG_sum (l : List Ep) (h : ∀ q ∈ l, onG q) : onG (gsum l) := by
  induction l with
  | nil => exact onG_zero
  | cons a l ih => exact onG_add (h a (by simp)) (ih fun q hq => h q (by simp [hq]))
theorem gsum_perm {l l' : List Ep} (p : l.Perm l') : (∀ q ∈ l, onG q) → gsum l = gsum l' := by
  induction p with
  | nil => intro _; rfl
  | cons a p ih => intro h; show gadd a _ = gadd a _; rw [ih fun q hq => h q (by simp [hq])]
  | swap a b l =>
    intro h
    have ha := h a (by simp); have hb := h b (by simp)
    have hl := onG_sum l fun q hq => h q (by simp [hq])
    show gadd b (gadd a (gsum l)) = gadd a (gadd b (gsum l))
    rw [← gadd_assoc hb ha hl, ← gadd_assoc ha hb hl, gadd_comm a b]
  | trans p1 p2 ih1 ih2 => intro h; rw [ih1 h, ih2 fun q hq => h q (p1.mem_iff.mpr hq)]
theorem gsum_shift {a : Ep} (ha : onG a) (l : List Ep) : (∀ q ∈ l, onG q) → gsum (l.map (gadd a)) = gadd (gmul a l.length) (gsum l) := by
  induction l with
  | nil => intro _; show gzero = gadd gzero gzero; rw [gadd_zero onG_zero]
  | cons b l ih =>
    intro h
    have hb := h b (by simp)
    have hl : ∀ q ∈ l, onG q := fun q hq => h q (by simp [hq])
    have hs := onG_sum l hl
    have hm := onG_mul ha l.length
    show gadd (gadd a b) (gsum (l.map (gadd a))) = gadd (gadd (gmul a l.length) a) (gadd b (gsum l))
    rw [ih hl, ← gadd_assoc (onG_add ha hb) hm hs, ← gadd_assoc (onG_add hm ha) hb hs, gadd_comm (gadd a b) (gmul a l.length), gadd_assoc hm ha hb]
theorem gorder_of (L : List Ep) (nd : L.Nodup) (on : ∀ q, onG q ↔ q ∈ L) {a : Ep} (ha : onG a) : gmul a L.length = gzero := by
  have hL : ∀ q ∈ L, onG q := fun q hq => (on q).mpr hq
  have nd' : (L.map (gadd a)).Nodup := by
    rw [List.Nodup, List.pairwise_map]
    refine List.Pairwise.imp_of_mem ?_ nd
    intro b c hb hc hbc e
    exact hbc (gadd_left ha (hL b hb) (hL c hc) e)
  have p : (L.map (gadd a)).Perm L := by
    rw [List.perm_ext_iff_of_nodup nd' nd]
    intro q
    rw [List.mem_map]
    constructor
    · rintro ⟨b, hb, rfl⟩
      exact (on _).mp (onG_add ha (hL b hb))
    · intro hq
      have hn := onG_neg ha
      refine ⟨gadd (gneg a) q, (on _).mp (onG_add hn (hL q hq)), ?_⟩
      rw [← gadd_assoc ha hn (hL q hq), gadd_neg ha, zero_gadd (hL q hq)]
  have hs := onG_sum L hL
  have e := gsum_perm p fun q hq => hL q (p.mem_iff.mp hq)
  rw [gsum_shift ha L hL] at e
  refine gadd_left hs (onG_mul ha _) onG_zero ?_
  rw [gadd_comm (gsum L) (gmul a L.length), e, gadd_zero hs]

/-! A list of all, of at most 2 R -/
theorem roots_of (y : Fin RE) : ∃ l : List (Fin RE), l.length ≤ 2 ∧ l.Nodup ∧ ∀ x, onG (x, y) ↔ x ∈ l := by
  by_cases h : ∃ x, onG (x, y)
  · obtain ⟨x, hx⟩ := h
    have two : ∀ x', onG (x', y) → x' = x ∨ x' = 0 - x := fun x' hx' => by
      have hd : 1 + 439 * (y * y) ≠ 0 := fun e => by
        have hi := gi_sq
        -- -1 is a square, 439 isn't: y y 439 = -1
        by_cases hy : y = 0
        · subst hy
          exact g1_ne (by rw [← e]; decide +kernel)
        · have e2 : gi * gi = 439 * (y * y) := by rw [hi]; generalize (439 : Fin RE) * (y * y) = q at e; clear hx hx' hi; grobner
          exact d_nosq _ (sq_quot hy e2)
      have e : (x' - x) * (x' + x) = 0 := by
        have : (x' - x) * (x' + x) * (1 + 439 * (y * y)) = 0 * (1 + 439 * (y * y)) := by
          unfold onG at hx hx'
          dsimp only at hx hx'
          generalize (439 : Fin RE) = d at *
          clear hd
          grobner
        exact Gcancel hd this
      rcases Gmul_zero e with h | h
      · left; clear hx hx' e hd; grobner
      · right; clear hx hx' e hd; grobner
    have neg : onG (0 - x, y) := onG_neg (u := (x, y)) hx
    by_cases h0 : 0 - x = x
    · refine ⟨[x], by simp, by simp, fun x' => ⟨fun h => ?_, fun h => ?_⟩⟩
      · rcases two x' h with h | h
        · simp [h]
        · rw [h0] at h; simp [h]
      · simp at h; rw [h]; exact hx
    · refine ⟨[x, 0 - x], by simp, ?_, fun x' => ⟨fun h => ?_, fun h => ?_⟩⟩
      · simp only [List.nodup_cons, List.mem_singleton, List.not_mem_nil, not_false_eq_true, List.nodup_nil, and_true]
        exact fun e => h0 e.symm
      · rcases two x' h with h | h
        · rw [h]; exact List.mem_cons_self
        · rw [h]; exact List.mem_cons_of_mem _ List.mem_cons_self
      · rcases List.mem_cons.1 h with h | h
        · rw [h]; exact hx
        · rw [List.mem_singleton.1 h]; exact neg
  · exact ⟨[], by simp, by simp, fun x => ⟨fun hx => absurd ⟨x, hx⟩ h, fun hx => by cases hx⟩⟩
theorem len_flat {α β : Type} (f : α → List β) (hf : ∀ a, (f a).length ≤ 2) : ∀ l : List α, (l.flatMap f).length ≤ 2 * l.length
  | [] => by simp
  | a :: l => by
    rw [List.flatMap_cons, List.length_append, List.length_cons]
    have := hf a
    have := len_flat f hf l
    omega
theorem all_points : ∃ L : List Ep, L.Nodup ∧ (∀ q, onG q ↔ q ∈ L) ∧ L.length ≤ 2 * RE := by
  have hr := fun y => roots_of y
  let r : Fin RE → List (Fin RE) := fun y => Classical.choose (hr y)
  have h1 : ∀ y, (r y).length ≤ 2 := fun y => (Classical.choose_spec (hr y)).1
  have h2 : ∀ y, (r y).Nodup := fun y => (Classical.choose_spec (hr y)).2.1
  have h3 : ∀ y x, onG (x, y) ↔ x ∈ r y := fun y => (Classical.choose_spec (hr y)).2.2
  clear_value r
  refine ⟨(List.finRange RE).flatMap fun y => (r y).map fun x => (x, y), ?_, ?_, ?_⟩
  · rw [List.Nodup, List.pairwise_flatMap]
    refine ⟨fun y _ => ?_, ?_⟩
    · rw [List.pairwise_map]
      exact List.Pairwise.imp (fun hab e => hab (congrArg Prod.fst e)) (h2 y)
    · refine List.Pairwise.imp ?_ (List.nodup_finRange RE)
      intro y y' hy p hp q hq e
      obtain ⟨a, _, rfl⟩ := List.mem_map.1 hp
      obtain ⟨b, _, rfl⟩ := List.mem_map.1 hq
      exact hy (congrArg Prod.snd e)
  · rintro ⟨x, y⟩
    rw [h3, List.mem_flatMap]
    constructor
    · intro h
      exact ⟨y, List.mem_finRange y, List.mem_map.2 ⟨x, h, rfl⟩⟩
    · rintro ⟨y', _, h⟩
      obtain ⟨a, ha, e⟩ := List.mem_map.1 h
      cases e
      exact ha
  · have := len_flat (fun y => (r y).map fun x => (x, y)) (fun y => by rw [List.length_map]; exact h1 y) (List.finRange RE)
    rwa [List.length_finRange] at this
end Ob

namespace Ob
set_option linter.unusedVariables false
set_option linter.unusedSimpArgs false

theorem modRE : Mod RE := ⟨by decide, by decide⟩
/-- The rest of a number by R. -/
def toG (n : Nat) : Fin RE := Fin.ofNat RE n
theorem toG_val (n : Nat) : (toG n).val = n % RE := rfl
theorem toG_of_val (x : Fin RE) : toG x.val = x := Fin.ext (Nat.mod_eq_of_lt x.isLt)
theorem G_word (x : Fin RE) : x.val < 18446744073709551616 := Nat.lt_trans x.isLt (by decide)
theorem addG (a b : Nat) : add RE a b = (toG a + toG b).val := by
  rw [add_yes modRE, Fin.val_add, toG_val, toG_val, ← Nat.add_mod]
theorem mulG (a b : Nat) : mul RE a b = (toG a * toG b).val := by
  rw [mul_yes modRE, Fin.val_mul, toG_val, toG_val, ← Nat.mul_mod]
theorem subG (a b : Nat) : sub RE a b = (toG a - toG b).val := by
  rw [sub_yes modRE, Fin.val_sub, toG_val, toG_val, Nat.add_comm]
theorem powG (b e : Nat) (he : e = RE - 2) : pow RE b e = (ginv (toG b)).val := by
  rw [pow_yes modRE, ginv_val, toG_val, ← he, ← Nat.pow_mod]
theorem toG_1 : toG 1 = 1 := rfl
theorem toG_439 : toG 439 = 439 := rfl
theorem toG_neg (b : Nat) : toG (RE - b % RE) = 0 - toG b := by
  apply Fin.ext
  rw [Fin.val_sub, toG_val, toG_val]
  rfl
/-- Whether a pair of numbers is a point. -/
def isG (x y : Nat) : Bool := decide (x < RE) && decide (y < RE) && decide (toG y * toG y = toG x * toG x + (1 + 439 * (toG x * toG x * (toG y * toG y))))
theorem isG_on {x y : Nat} (h : isG x y = true) : x = (toG x).val ∧ y = (toG y).val ∧ onG (toG x, toG y) := by
  simp only [isG, Bool.and_eq_true, decide_eq_true_eq] at h
  obtain ⟨⟨h1, h2⟩, h3⟩ := h
  refine ⟨(Nat.mod_eq_of_lt h1).symm, (Nat.mod_eq_of_lt h2).symm, ?_⟩
  show toG y * toG y = 1 + toG x * toG x + 439 * (toG x * toG x * (toG y * toG y))
  generalize toG x = a at *; generalize toG y = b at *
  grobner
theorem on_isG {u : Ep} (h : onG u) : isG u.1.val u.2.val = true := by
  obtain ⟨x, y⟩ := u
  simp only [isG, Bool.and_eq_true, decide_eq_true_eq, toG_of_val]
  refine ⟨⟨x.isLt, y.isLt⟩, ?_⟩
  have h' : y * y = 1 + x * x + 439 * (x * x * (y * y)) := h
  grobner
/-- What a pair of numbers counts as. -/
def ofG (x y : Nat) : Ep := if isG x y = true then (toG x, toG y) else gzero
theorem ofG_on (x y : Nat) : onG (ofG x y) := by
  by_cases h : isG x y = true
  · rw [ofG, if_pos h]; exact (isG_on h).2.2
  · rw [ofG, if_neg h]; exact onG_zero
theorem ofG_yes {x y : Nat} (h : isG x y = true) : x = (ofG x y).1.val ∧ y = (ofG x y).2.val := by
  rw [ofG, if_pos h]; exact ⟨(isG_on h).1, (isG_on h).2.1⟩
theorem ofG_no {x y : Nat} (h : isG x y = false) : ofG x y = gzero := by
  rw [ofG, if_neg (by rw [h]; decide)]
theorem ofG_val {u : Ep} (h : onG u) : ofG u.1.val u.2.val = u := by
  rw [ofG, if_pos (on_isG h), toG_of_val, toG_of_val]
end Ob

namespace Ob
set_option linter.unusedVariables false
set_option linter.unusedSimpArgs false

abbrev Wt : Type := Fin RE × Fin RE × Fin RE
/-- It stands for that point. -/
def Wide (a : Wt) (u : Ep) : Prop := a.2.2 ≠ 0 ∧ a.1 = u.1 * a.2.2 ∧ a.2.1 = u.2 * a.2.2
def wz (a b : Wt) : Fin RE := a.2.2 * b.2.2
def wk (a b : Wt) : Fin RE := 439 * (a.1 * b.1) * (a.2.1 * b.2.1)
def wless (a b : Wt) : Fin RE := wz a b * wz a b - wk a b
def wmore (a b : Wt) : Fin RE := wz a b * wz a b + wk a b
def wsum (a b : Wt) : Wt := (wz a b * (a.1 * b.2.1 + a.2.1 * b.1) * wless a b, wz a b * (a.2.1 * b.2.1 + a.1 * b.1) * wmore a b, wless a b * wmore a b)
theorem Gmul_ne {a b : Fin RE} (ha : a ≠ 0) (hb : b ≠ 0) : a * b ≠ 0 := fun e => by
  rcases Gmul_zero e with h | h
  · exact ha h
  · exact hb h
theorem Wide.sum {a b : Wt} {u v : Ep} (ha : Wide a u) (hb : Wide b v) (hu : onG u) (hv : onG v) : Wide (wsum a b) (gadd u v) := by
  obtain ⟨h1, h2⟩ := Gsum_add hu hv
  have n1 := gden1 hu hv
  have n2 := gden2 hu hv
  obtain ⟨x1, y1, z1⟩ := a
  obtain ⟨x2, y2, z2⟩ := b
  obtain ⟨a0, a1, a2⟩ := ha
  obtain ⟨b0, b1, b2⟩ := hb
  simp only at a0 a1 a2 b0 b1 b2
  subst a1 a2 b1 b2
  have zz := Gmul_ne a0 b0
  unfold gk at *
  generalize gadd u v = t at *
  clear hu hv
  obtain ⟨u1, u2⟩ := u
  obtain ⟨v1, v2⟩ := v
  obtain ⟨t1, t2⟩ := t
  simp only at *
  have el : wless (u1 * z1, u2 * z1, z1) (v1 * z2, v2 * z2, z2) = z1 * z2 * (z1 * z2) * (1 - 439 * (u1 * v1 * (u2 * v2))) := by
    simp only [wless, wz, wk]; generalize (439 : Fin RE) = d; grobner
  have em : wmore (u1 * z1, u2 * z1, z1) (v1 * z2, v2 * z2, z2) = z1 * z2 * (z1 * z2) * (1 + 439 * (u1 * v1 * (u2 * v2))) := by
    simp only [wmore, wz, wk]; generalize (439 : Fin RE) = d; grobner
  refine ⟨?_, ?_, ?_⟩
  · show wless _ _ * wmore _ _ ≠ 0
    rw [el, em]
    exact Gmul_ne (Gmul_ne (Gmul_ne zz zz) n2) (Gmul_ne (Gmul_ne zz zz) n1)
  · show z1 * z2 * (u1 * z1 * (v2 * z2) + u2 * z1 * (v1 * z2)) * wless _ _ = t1 * (wless _ _ * wmore _ _)
    rw [em]
    clear el em n1 n2 zz a0 b0 h2
    generalize wless (u1 * z1, u2 * z1, z1) (v1 * z2, v2 * z2, z2) = l
    generalize (439 : Fin RE) = d at *
    grobner
  · show z1 * z2 * (u2 * z1 * (v2 * z2) + u1 * z1 * (v1 * z2)) * wmore _ _ = t2 * (wless _ _ * wmore _ _)
    rw [el]
    clear el em n1 n2 zz a0 b0 h1
    generalize wmore (u1 * z1, u2 * z1, z1) (v1 * z2, v2 * z2, z2) = l
    generalize (439 : Fin RE) = d at *
    grobner
theorem Wide.of (u : Ep) : Wide (u.1, u.2, 1) u := ⟨g1_ne, by show u.1 = u.1 * 1; grobner, by show u.2 = u.2 * 1; grobner⟩
theorem Wide.out {a : Wt} {u : Ep} (h : Wide a u) : a.1 * ginv a.2.2 = u.1 ∧ a.2.1 * ginv a.2.2 = u.2 := by
  obtain ⟨h0, h1, h2⟩ := h
  have := ginv_mul h0
  rw [h1, h2]
  generalize a.2.2 = z at *
  generalize ginv z = j at *
  clear h0 h1 h2
  constructor <;> grobner
theorem gmul_odd {p A : Ep} (hp : onG p) (hA : onG A) (E : Nat) (h : E % 2 = 1) : gadd (gadd p A) (gmul (gadd A A) (E / 2)) = gadd p (gmul A E) := by
  have e : E = 1 + 2 * (E / 2) := by omega
  have hm := onG_mul (onG_add hA hA) (E / 2)
  rw [gadd_assoc hp hA hm]
  congr 1
  conv => rhs; rw [e, gmul_add hA, gmul_one hA, ← gmul_mul hA, gmul_two hA]
theorem gmul_even {A : Ep} (hA : onG A) (E : Nat) (h : E % 2 = 0) : gmul (gadd A A) (E / 2) = gmul A E := by
  have e : E = 2 * (E / 2) := by omega
  conv => rhs; rw [e, ← gmul_mul hA, gmul_two hA]
end Ob

namespace Go.Proofs.YtkekomiaiaacaaaDoor
open Go.RowKit Go.Proofs
set_option linter.unusedVariables false
set_option linter.unusedSimpArgs false
attribute [local go_sem ↓] Go.wp_at_zero Go.wp_at_succ

/-! Numbers modulo R -/

theorem eplusW (a b : Nat) (ha : a < 18446744073709551616) (hb : b < 18446744073709551616) (w : World) :
    Calls Tryd.prog 46 #[.int .u64 a, .int .u64 b] w fun e w' => e = .returned (.int .u64 ((Ob.toG a + Ob.toG b).val : Nat)) ∧ w = w' := by
  have c0 : ∀ w, Calls Tryd.prog 55 #[.int .u64 288230376287764481, .int .u64 a, .int .u64 b] w fun e w' => e = .returned (.int .u64 ((Ob.toG a + Ob.toG b).val : Nat)) ∧ w = w' := fun w => by
    rw [← Ob.addG]
    exact add_any Ob.RE a b w (by decide) ha hb
  generalize (Ob.toG a + Ob.toG b).val = r at *
  go_enter Tryd.func46, Tryd.ntmps46
  go_wp2_with (first | (go_at_call 55; first | (with_reducible refine (c0 _).mono ?_; rintro e w' ⟨rfl, rfl⟩)))
  go_ret
  exact ⟨rfl, rfl⟩
theorem eminusW (a b : Nat) (ha : a < 18446744073709551616) (hb : b < 18446744073709551616) (w : World) :
    Calls Tryd.prog 45 #[.int .u64 a, .int .u64 b] w fun e w' => e = .returned (.int .u64 ((Ob.toG a - Ob.toG b).val : Nat)) ∧ w = w' := by
  have c0 : ∀ w, Calls Tryd.prog 58 #[.int .u64 288230376287764481, .int .u64 a, .int .u64 b] w fun e w' => e = .returned (.int .u64 ((Ob.toG a - Ob.toG b).val : Nat)) ∧ w = w' := fun w => by
    rw [← Ob.subG]
    exact sub_any Ob.RE a b w (by decide) ha hb
  generalize (Ob.toG a - Ob.toG b).val = r at *
  go_enter Tryd.func45, Tryd.ntmps45
  go_wp2_with (first | (go_at_call 58; first | (with_reducible refine (c0 _).mono ?_; rintro e w' ⟨rfl, rfl⟩)))
  go_ret
  exact ⟨rfl, rfl⟩
theorem etimesW (a b : Nat) (ha : a < 18446744073709551616) (hb : b < 18446744073709551616) (w : World) :
    Calls Tryd.prog 44 #[.int .u64 a, .int .u64 b] w fun e w' => e = .returned (.int .u64 ((Ob.toG a * Ob.toG b).val : Nat)) ∧ ∃ n, w' = w.drewN n := by
  have c0 : ∀ w, Calls Tryd.prog 57 #[.int .u64 288230376287764481, .int .u64 a, .int .u64 b] w fun e w' => e = .returned (.int .u64 ((Ob.toG a * Ob.toG b).val : Nat)) ∧ ∃ n, w' = w.drewN n := fun w => by
    rw [← Ob.mulG]
    exact mul_any Ob.RE a b w (by decide) ha hb
  generalize (Ob.toG a * Ob.toG b).val = r at *
  go_enter Tryd.func44, Tryd.ntmps44
  go_wp2_with (first | (go_at_call 57; first | (with_reducible refine (c0 _).mono ?_; rintro e w' ⟨rfl, nd, rfl⟩)))
  go_ret
  exact ⟨rfl, _, rfl⟩
/-- The same on elements. -/
theorem eplusF (a b : Fin Ob.RE) (w : World) :
    Calls Tryd.prog 46 #[.int .u64 (a.val : Nat), .int .u64 (b.val : Nat)] w fun e w' => e = .returned (.int .u64 ((a + b).val : Nat)) ∧ w = w' := by
  have := eplusW a.val b.val (Ob.G_word _) (Ob.G_word _) w
  rw [Ob.toG_of_val, Ob.toG_of_val] at this
  exact this
theorem eminusF (a b : Fin Ob.RE) (w : World) :
    Calls Tryd.prog 45 #[.int .u64 (a.val : Nat), .int .u64 (b.val : Nat)] w fun e w' => e = .returned (.int .u64 ((a - b).val : Nat)) ∧ w = w' := by
  have := eminusW a.val b.val (Ob.G_word _) (Ob.G_word _) w
  rw [Ob.toG_of_val, Ob.toG_of_val] at this
  exact this
theorem etimesF (a b : Fin Ob.RE) (w : World) :
    Calls Tryd.prog 44 #[.int .u64 (a.val : Nat), .int .u64 (b.val : Nat)] w fun e w' => e = .returned (.int .u64 ((a * b).val : Nat)) ∧ ∃ n, w' = w.drewN n := by
  have := etimesW a.val b.val (Ob.G_word _) (Ob.G_word _) w
  rw [Ob.toG_of_val, Ob.toG_of_val] at this
  exact this
theorem eover_core (a b i r : Int) (er : Value) (w : World)
   (c0 : ∀ w, Calls Tryd.prog 56 #[.int .u64 288230376287764481, .int .u64 b] w fun e w' => e = .returned (.tuple #[.int .u64 i, er]) ∧ w = w')
   (c1 : ∀ w, Calls Tryd.prog 44 #[.int .u64 a, .int .u64 i] w fun e w' => e = .returned (.int .u64 r) ∧ ∃ n, w' = w.drewN n) :
    Calls Tryd.prog 43 #[.int .u64 a, .int .u64 b] w fun e w' => e = .returned (.int .u64 r) ∧ ∃ n, w' = w.drewN n := by
  go_enter Tryd.func43, Tryd.ntmps43
  go_wp2_with (first | (go_at_call 56; first | (with_reducible refine (c0 _).mono ?_; rintro e w' ⟨rfl, rfl⟩)) | (go_at_call 44; first | (with_reducible refine (c1 _).mono ?_; rintro e w' ⟨rfl, nd, rfl⟩)))
  go_ret
  exact ⟨rfl, _, rfl⟩
theorem eoverF (a b : Fin Ob.RE) (h : b ≠ 0) (w : World) :
    Calls Tryd.prog 43 #[.int .u64 (a.val : Nat), .int .u64 (b.val : Nat)] w fun e w' => e = .returned (.int .u64 ((a * Ob.ginv b).val : Nat)) ∧ ∃ n, w' = w.drewN n := by
  have hg : Nat.gcd Ob.RE b.val = 1 := by
    rcases Ob.primeR.2 (Nat.gcd Ob.RE b.val) (Nat.gcd_dvd_left _ _) with h1 | h1
    · exact h1
    · exact absurd (Nat.mod_eq_zero_of_dvd (show Ob.R ∣ b.val from h1 ▸ Nat.gcd_dvd_right Ob.RE b.val)) (Ob.G_ne h)
  obtain ⟨Y, hY, hYY⟩ := Ob.inverse_exists Ob.modRE.1 hg
  have hi := Ob.inv_ok_of hY hYY
  have c2 := fun w => inv_some Ob.RE b.val w Ob.modRE (Ob.G_word _) hg
  generalize Ob.inv Ob.RE b.val = X at hi c2
  have hX : ∃ Z : Fin Ob.RE, Z.val = X := ⟨⟨X, hi.1⟩, rfl⟩
  obtain ⟨Z, rfl⟩ := hX
  have hZ : b * Z = 1 := Fin.ext (by rw [Fin.val_mul, Nat.mul_comm]; exact hi.2)
  rw [Ob.ginv_unique hZ]
  exact eover_core _ _ _ _ _ w c2 (etimesF a Z)

/-! Whether it is a point -/

/-- A point, as a value. -/
def edV (u : Ob.Ep) : Value := .agg #[.int .u64 (u.1.val : Nat), .int .u64 (u.2.val : Nat)]
/-- One with a third number, as a value. -/
def wtV (a : Ob.Wt) : Value := .agg #[.int .u64 (a.1.val : Nat), .int .u64 (a.2.1.val : Nat), .int .u64 (a.2.2.val : Nat)]

set_option maxHeartbeats 1000000 in
theorem eis_core (x y a b c d f g : Int) (hx : x < 288230376287764481) (hy : y < 288230376287764481) (w : World)
   (c0 : ∀ w, Calls Tryd.prog 44 #[.int .u64 x, .int .u64 x] w fun e w' => e = .returned (.int .u64 a) ∧ ∃ n, w' = w.drewN n)
   (c1 : ∀ w, Calls Tryd.prog 44 #[.int .u64 y, .int .u64 y] w fun e w' => e = .returned (.int .u64 b) ∧ ∃ n, w' = w.drewN n)
   (c2 : ∀ w, Calls Tryd.prog 45 #[.int .u64 b, .int .u64 a] w fun e w' => e = .returned (.int .u64 c) ∧ w = w')
   (c3 : ∀ w, Calls Tryd.prog 44 #[.int .u64 a, .int .u64 b] w fun e w' => e = .returned (.int .u64 d) ∧ ∃ n, w' = w.drewN n)
   (c4 : ∀ w, Calls Tryd.prog 44 #[.int .u64 439, .int .u64 d] w fun e w' => e = .returned (.int .u64 f) ∧ ∃ n, w' = w.drewN n)
   (c5 : ∀ w, Calls Tryd.prog 46 #[.int .u64 1, .int .u64 f] w fun e w' => e = .returned (.int .u64 g) ∧ w = w') :
    Calls Tryd.prog 47 #[.agg #[.int .u64 x, .int .u64 y]] w fun e w' => e = .returned (.bool (c == g)) ∧ Below w.heap.size w w' := by
  have hx' : ¬ (288230376287764481 ≤ x) := by omega
  have hy' : ¬ (288230376287764481 ≤ y) := by omega
  go_enter Tryd.func47, Tryd.ntmps47
  go_wp2
  go_region_held3 (fun w' => w'.cell? ⟨w.heap.size, 0, none⟩ = some (.int .u64 x) ∧ w'.cell? ⟨w.heap.size, 1, none⟩ = some (.int .u64 y)) (go_keep)
    ((first | (go_at_call 44; first | (with_reducible refine (c0 _).mono ?_; rintro e w' ⟨rfl, nd, rfl⟩) | (with_reducible refine (c1 _).mono ?_; rintro e w' ⟨rfl, nd, rfl⟩))))
  go_wp2_with (first | (go_at_call 45; first | (with_reducible refine (c2 _).mono ?_; rintro e w' ⟨rfl, rfl⟩)) | (go_at_call 44; first | (with_reducible refine (c3 _).mono ?_; rintro e w' ⟨rfl, nd, rfl⟩) | (with_reducible refine (c4 _).mono ?_; rintro e w' ⟨rfl, nd, rfl⟩)) | (go_at_call 46; first | (with_reducible refine (c5 _).mono ?_; rintro e w' ⟨rfl, rfl⟩)))
  go_ret
  exact ⟨rfl, by (repeat' (first | (with_reducible first | exact Below.refl _ _ | assumption | refine Below.alloc ?_ ?_ _ | refine Below.drew ?_ | refine below_drewN ?_ _ | refine Below.setCell ?_ ?_ _ | refine below_via (by with_reducible assumption) ?_ ?_) | omega | (simp only [szs]; omega) | (simp only [szs] at *; omega)))⟩
set_option maxHeartbeats 1000000 in
theorem eis_big (x y : Int) (h : ¬ (x < 288230376287764481 ∧ y < 288230376287764481)) (w : World) :
    Calls Tryd.prog 47 #[.agg #[.int .u64 x, .int .u64 y]] w fun e w' => e = .returned (.bool false) ∧ Below w.heap.size w w' := by
  by_cases hx : x < 288230376287764481
  · have hx' : ¬ (288230376287764481 ≤ x) := by omega
    have hy' : 288230376287764481 ≤ y := by omega
    clear h
    go_enter Tryd.func47, Tryd.ntmps47
    go_wp2
    go_ret
    exact ⟨rfl, by (repeat' (first | (with_reducible first | exact Below.refl _ _ | assumption | refine Below.alloc ?_ ?_ _ | refine Below.drew ?_ | refine below_drewN ?_ _ | refine Below.setCell ?_ ?_ _ | refine below_via (by with_reducible assumption) ?_ ?_) | omega | (simp only [szs]; omega) | (simp only [szs] at *; omega)))⟩
  · have hx' : 288230376287764481 ≤ x := by omega
    clear h hx
    go_enter Tryd.func47, Tryd.ntmps47
    go_wp2
    go_ret
    exact ⟨rfl, by (repeat' (first | (with_reducible first | exact Below.refl _ _ | assumption | refine Below.alloc ?_ ?_ _ | refine Below.drew ?_ | refine below_drewN ?_ _ | refine Below.setCell ?_ ?_ _ | refine below_via (by with_reducible assumption) ?_ ?_) | omega | (simp only [szs]; omega) | (simp only [szs] at *; omega)))⟩
theorem beq_valG (a b : Fin Ob.RE) : (((a.val : Nat) : Int) == ((b.val : Nat) : Int)) = decide (a = b) := by
  by_cases h : a = b
  · subst h; simp
  · simp [h]
    intro e
    exact h (Fin.ext (by omega))
theorem isG_big {x y : Nat} (h : ¬ (x < Ob.RE ∧ y < Ob.RE)) : Ob.isG x y = false := by
  cases hc : Ob.isG x y with
  | false => rfl
  | true => simp [Ob.isG] at hc; exact absurd hc.1 h
theorem eisW (x y : Nat) (hx : x < 18446744073709551616) (hy : y < 18446744073709551616) (w : World) :
    Calls Tryd.prog 47 #[.agg #[.int .u64 x, .int .u64 y]] w fun e w' => e = .returned (.bool (Ob.isG x y)) ∧ Below w.heap.size w w' := by
  by_cases hp : x < Ob.RE ∧ y < Ob.RE
  · have c4 := etimesW 439 (Ob.toG x * Ob.toG x * (Ob.toG y * Ob.toG y)).val (by decide) (Ob.G_word _)
    have c5 := eplusW 1 (439 * (Ob.toG x * Ob.toG x * (Ob.toG y * Ob.toG y))).val (by decide) (Ob.G_word _)
    rw [Ob.toG_of_val] at c4 c5
    have := eis_core x y _ _ _ _ _ _ (by have := hp.1; simp only [Ob.RE] at this; omega) (by have := hp.2; simp only [Ob.RE] at this; omega) w (etimesW x x hx hx) (etimesW y y hy hy) (eminusF _ _) (etimesF _ _) c4 c5
    refine this.mono fun e w' ⟨h, hb⟩ => ⟨h.trans ?_, hb⟩
    rw [beq_valG]
    have e1 : (Ob.toG y * Ob.toG y - Ob.toG x * Ob.toG x = Ob.toG 1 + 439 * (Ob.toG x * Ob.toG x * (Ob.toG y * Ob.toG y))) ↔ (Ob.toG y * Ob.toG y = Ob.toG x * Ob.toG x + (1 + 439 * (Ob.toG x * Ob.toG x * (Ob.toG y * Ob.toG y)))) := by
      rw [Ob.toG_1]
      generalize (439 : Fin Ob.RE) = d
      generalize Ob.toG x * Ob.toG x = p
      generalize Ob.toG y * Ob.toG y = q
      constructor
      · intro h; grobner
      · intro h; grobner
    simp only [Ob.isG, hp.1, hp.2, decide_true, Bool.true_and, e1]
  · refine (eis_big x y (fun h => hp ⟨by simp only [Ob.RE]; omega, by simp only [Ob.RE]; omega⟩) w).mono fun e w' ⟨h, hb⟩ => ⟨h.trans ?_, hb⟩
    rw [isG_big hp]

theorem ezeroW (w : World) : Calls Tryd.prog 48 #[] w fun e w' => e = .returned (.agg #[.int .u64 0, .int .u64 1]) ∧ Below w.heap.size w w' := by
  go_enter Tryd.func48, Tryd.ntmps48
  go_wp2
  exact bodyPost_ret (v := .agg #[.int .u64 0, .int .u64 1]) (by simp [results, Tryd.results48, go_sem]) rfl ⟨rfl, by (repeat' (first | (with_reducible first | exact Below.refl _ _ | assumption | refine Below.alloc ?_ ?_ _ | refine Below.drew ?_ | refine below_drewN ?_ _ | refine Below.setCell ?_ ?_ _ | refine below_via (by with_reducible assumption) ?_ ?_) | omega | (simp only [szs]; omega) | (simp only [szs] at *; omega)))⟩

/-! Wide ones -/

set_option maxHeartbeats 1000000 in
theorem ewiden_yes (x y : Int) (w : World)
   (c0 : ∀ w, Calls Tryd.prog 47 #[.agg #[.int .u64 x, .int .u64 y]] w fun e w' => e = .returned (.bool true) ∧ Below w.heap.size w w') :
    Calls Tryd.prog 28 #[.agg #[.int .u64 x, .int .u64 y]] w fun e w' => e = .returned (.agg #[.int .u64 x, .int .u64 y, .int .u64 1]) ∧ Below w.heap.size w w' := by
  go_enter Tryd.func28, Tryd.ntmps28
  go_wp2_with (first | (go_at_call 47; first | (with_reducible refine (c0 _).mono ?_; rintro e w_c0 ⟨rfl, b_c0⟩; have z_c0 := b_c0.size; (try simp only [szs] at z_c0); (try (have q_c0_0 := own2 b_c0 (w.heap.size) (by first | omega | (simp only [szs]; omega)))); (try (have q_c0_1 := own3 b_c0 (w.heap.size + 1) (by first | omega | (simp only [szs]; omega)))))))
  exact bodyPost_ret (v := .agg #[.int .u64 x, .int .u64 y, .int .u64 1]) (by simp [results, Tryd.results28, go_sem, *]) rfl ⟨rfl, by (repeat' (first | (with_reducible first | exact Below.refl _ _ | assumption | refine Below.alloc ?_ ?_ _ | refine Below.drew ?_ | refine below_drewN ?_ _ | refine Below.setCell ?_ ?_ _ | refine below_via (by with_reducible assumption) ?_ ?_) | omega | (simp only [szs]; omega) | (simp only [szs] at *; omega)))⟩
set_option maxHeartbeats 1000000 in
theorem ewiden_no (x y : Int) (w : World)
   (c0 : ∀ w, Calls Tryd.prog 47 #[.agg #[.int .u64 x, .int .u64 y]] w fun e w' => e = .returned (.bool false) ∧ Below w.heap.size w w')
   (c1 : ∀ w, Calls Tryd.prog 48 #[] w fun e w' => e = .returned (.agg #[.int .u64 0, .int .u64 1]) ∧ Below w.heap.size w w') :
    Calls Tryd.prog 28 #[.agg #[.int .u64 x, .int .u64 y]] w fun e w' => e = .returned (.agg #[.int .u64 0, .int .u64 1, .int .u64 1]) ∧ Below w.heap.size w w' := by
  go_enter Tryd.func28, Tryd.ntmps28
  go_wp2_with (first | (go_at_call 47; first | (with_reducible refine (c0 _).mono ?_; rintro e w_c0 ⟨rfl, b_c0⟩; have z_c0 := b_c0.size; (try simp only [szs] at z_c0); (try (have q_c0_0 := own2 b_c0 (w.heap.size) (by first | omega | (simp only [szs]; omega)))); (try (have q_c0_1 := own3 b_c0 (w.heap.size + 1) (by first | omega | (simp only [szs]; omega)))))) | (go_at_call 48; first | (with_reducible refine (c1 _).mono ?_; rintro e w_c1 ⟨rfl, b_c1⟩; have z_c1 := b_c1.size; (try simp only [szs] at z_c1); (try (have q_c1_0 := own2 b_c1 (w.heap.size) (by first | omega | (simp only [szs]; omega)))); (try (have q_c1_1 := own3 b_c1 (w.heap.size + 1) (by first | omega | (simp only [szs]; omega)))))))
  exact bodyPost_ret (v := .agg #[.int .u64 0, .int .u64 1, .int .u64 1]) (by simp [results, Tryd.results28, go_sem, *]) rfl ⟨rfl, by (repeat' (first | (with_reducible first | exact Below.refl _ _ | assumption | refine Below.alloc ?_ ?_ _ | refine Below.drew ?_ | refine below_drewN ?_ _ | refine Below.setCell ?_ ?_ _ | refine below_via (by with_reducible assumption) ?_ ?_) | omega | (simp only [szs]; omega) | (simp only [szs] at *; omega)))⟩
theorem ewidenW (x y : Nat) (hx : x < 18446744073709551616) (hy : y < 18446744073709551616) (w : World) :
    Calls Tryd.prog 28 #[.agg #[.int .u64 x, .int .u64 y]] w fun e w' => e = .returned (wtV ((Ob.ofG x y).1, (Ob.ofG x y).2, 1)) ∧ Below w.heap.size w w' := by
  have c0 := eisW x y hx hy
  cases h : Ob.isG x y with
  | true =>
    rw [h] at c0
    obtain ⟨h1, h2⟩ := Ob.ofG_yes h
    have := ewiden_yes x y w c0
    unfold wtV
    simp only
    rw [← h1, ← h2]
    exact this
  | false =>
    rw [h] at c0
    rw [Ob.ofG_no h]
    exact ewiden_no x y w c0 ezeroW

set_option maxHeartbeats 1000000 in
theorem enarrow_core (x y z i r s : Int) (w : World)
   (c0 : ∀ w, Calls Tryd.prog 43 #[.int .u64 1, .int .u64 z] w fun e w' => e = .returned (.int .u64 i) ∧ ∃ n, w' = w.drewN n)
   (c1 : ∀ w, Calls Tryd.prog 44 #[.int .u64 x, .int .u64 i] w fun e w' => e = .returned (.int .u64 r) ∧ ∃ n, w' = w.drewN n)
   (c2 : ∀ w, Calls Tryd.prog 44 #[.int .u64 y, .int .u64 i] w fun e w' => e = .returned (.int .u64 s) ∧ ∃ n, w' = w.drewN n) :
    Calls Tryd.prog 26 #[.agg #[.int .u64 x, .int .u64 y, .int .u64 z]] w fun e w' => e = .returned (.agg #[.int .u64 r, .int .u64 s]) ∧ Below w.heap.size w w' := by
  go_enter Tryd.func26, Tryd.ntmps26
  go_wp2_with (first | (go_at_call 43; first | (with_reducible refine (c0 _).mono ?_; rintro e w' ⟨rfl, nd, rfl⟩)))
  go_region_held3 (fun w' => w'.cell? ⟨w.heap.size, 0, none⟩ = some (.int .u64 x) ∧ w'.cell? ⟨w.heap.size, 1, none⟩ = some (.int .u64 y) ∧ w'.cell? ⟨w.heap.size, 2, none⟩ = some (.int .u64 z)) (go_keep)
    ((first | (go_at_call 44; first | (with_reducible refine (c1 _).mono ?_; rintro e w' ⟨rfl, nd, rfl⟩) | (with_reducible refine (c2 _).mono ?_; rintro e w' ⟨rfl, nd, rfl⟩))))
  go_wp2
  exact bodyPost_ret (v := .agg #[.int .u64 r, .int .u64 s]) (by simp [results, Tryd.results26, go_sem, *]) rfl ⟨rfl, by (repeat' (first | (with_reducible first | exact Below.refl _ _ | assumption | refine Below.alloc ?_ ?_ _ | refine Below.drew ?_ | refine below_drewN ?_ _ | refine Below.setCell ?_ ?_ _ | refine below_via (by with_reducible assumption) ?_ ?_) | omega | (simp only [szs]; omega) | (simp only [szs] at *; omega)))⟩
theorem enarrowW {a : Ob.Wt} {u : Ob.Ep} (h : Ob.Wide a u) (w : World) :
    Calls Tryd.prog 26 #[wtV a] w fun e w' => e = .returned (edV u) ∧ Below w.heap.size w w' := by
  obtain ⟨h1, h2⟩ := h.out
  have c0 := eoverF 1 a.2.2 h.1
  have c1 := etimesF a.1 (1 * Ob.ginv a.2.2)
  have c2 := etimesF a.2.1 (1 * Ob.ginv a.2.2)
  have e1 : 1 * Ob.ginv a.2.2 = Ob.ginv a.2.2 := by generalize Ob.ginv a.2.2 = q; grobner
  rw [e1] at c0 c1 c2
  rw [h1] at c1
  rw [h2] at c2
  exact enarrow_core _ _ _ _ _ _ w c0 c1 c2

set_option maxHeartbeats 4000000 in
theorem esum_core (x1 y1 z1 x2 y2 z2 z q p1 p2 p3 k l m a1 a2 x y r1 r2 s1 s2 t : Int) (w : World)
   (c0 : ∀ w, Calls Tryd.prog 44 #[.int .u64 z1, .int .u64 z2] w fun e w' => e = .returned (.int .u64 z) ∧ ∃ n, w' = w.drewN n)
   (c1 : ∀ w, Calls Tryd.prog 44 #[.int .u64 z, .int .u64 z] w fun e w' => e = .returned (.int .u64 q) ∧ ∃ n, w' = w.drewN n)
   (c2 : ∀ w, Calls Tryd.prog 44 #[.int .u64 x1, .int .u64 x2] w fun e w' => e = .returned (.int .u64 p1) ∧ ∃ n, w' = w.drewN n)
   (c3 : ∀ w, Calls Tryd.prog 44 #[.int .u64 439, .int .u64 p1] w fun e w' => e = .returned (.int .u64 p2) ∧ ∃ n, w' = w.drewN n)
   (c4 : ∀ w, Calls Tryd.prog 44 #[.int .u64 y1, .int .u64 y2] w fun e w' => e = .returned (.int .u64 p3) ∧ ∃ n, w' = w.drewN n)
   (c5 : ∀ w, Calls Tryd.prog 44 #[.int .u64 p2, .int .u64 p3] w fun e w' => e = .returned (.int .u64 k) ∧ ∃ n, w' = w.drewN n)
   (c6 : ∀ w, Calls Tryd.prog 45 #[.int .u64 q, .int .u64 k] w fun e w' => e = .returned (.int .u64 l) ∧ w = w')
   (c7 : ∀ w, Calls Tryd.prog 46 #[.int .u64 q, .int .u64 k] w fun e w' => e = .returned (.int .u64 m) ∧ w = w')
   (c8 : ∀ w, Calls Tryd.prog 44 #[.int .u64 x1, .int .u64 y2] w fun e w' => e = .returned (.int .u64 a1) ∧ ∃ n, w' = w.drewN n)
   (c9 : ∀ w, Calls Tryd.prog 44 #[.int .u64 y1, .int .u64 x2] w fun e w' => e = .returned (.int .u64 a2) ∧ ∃ n, w' = w.drewN n)
   (c10 : ∀ w, Calls Tryd.prog 46 #[.int .u64 a1, .int .u64 a2] w fun e w' => e = .returned (.int .u64 x) ∧ w = w')
   (c11 : ∀ w, Calls Tryd.prog 46 #[.int .u64 p3, .int .u64 p1] w fun e w' => e = .returned (.int .u64 y) ∧ w = w')
   (c12 : ∀ w, Calls Tryd.prog 44 #[.int .u64 z, .int .u64 x] w fun e w' => e = .returned (.int .u64 r1) ∧ ∃ n, w' = w.drewN n)
   (c13 : ∀ w, Calls Tryd.prog 44 #[.int .u64 r1, .int .u64 l] w fun e w' => e = .returned (.int .u64 r2) ∧ ∃ n, w' = w.drewN n)
   (c14 : ∀ w, Calls Tryd.prog 44 #[.int .u64 z, .int .u64 y] w fun e w' => e = .returned (.int .u64 s1) ∧ ∃ n, w' = w.drewN n)
   (c15 : ∀ w, Calls Tryd.prog 44 #[.int .u64 s1, .int .u64 m] w fun e w' => e = .returned (.int .u64 s2) ∧ ∃ n, w' = w.drewN n)
   (c16 : ∀ w, Calls Tryd.prog 44 #[.int .u64 l, .int .u64 m] w fun e w' => e = .returned (.int .u64 t) ∧ ∃ n, w' = w.drewN n) :
    Calls Tryd.prog 27 #[.agg #[.int .u64 x1, .int .u64 y1, .int .u64 z1], .agg #[.int .u64 x2, .int .u64 y2, .int .u64 z2]] w fun e w' => e = .returned (.agg #[.int .u64 r2, .int .u64 s2, .int .u64 t]) ∧ Below w.heap.size w w' := by
  go_enter Tryd.func27, Tryd.ntmps27
  go_wp2_with (first | (go_at_call 44; first | (with_reducible refine (c0 _).mono ?_; rintro e w' ⟨rfl, nd, rfl⟩) | (with_reducible refine (c1 _).mono ?_; rintro e w' ⟨rfl, nd, rfl⟩)))
  go_region_held3 (fun w' => w'.cell? ⟨w.heap.size, 0, none⟩ = some (.int .u64 x1) ∧ w'.cell? ⟨w.heap.size, 1, none⟩ = some (.int .u64 y1) ∧ w'.cell? ⟨w.heap.size, 2, none⟩ = some (.int .u64 z1) ∧ w'.cell? ⟨w.heap.size + 1, 0, none⟩ = some (.int .u64 x2) ∧ w'.cell? ⟨w.heap.size + 1, 1, none⟩ = some (.int .u64 y2) ∧ w'.cell? ⟨w.heap.size + 1, 2, none⟩ = some (.int .u64 z2)) (go_keep)
    ((first | (go_at_call 44; first | (with_reducible refine (c2 _).mono ?_; rintro e w' ⟨rfl, nd, rfl⟩) | (with_reducible refine (c3 _).mono ?_; rintro e w' ⟨rfl, nd, rfl⟩) | (with_reducible refine (c4 _).mono ?_; rintro e w' ⟨rfl, nd, rfl⟩) | (with_reducible refine (c5 _).mono ?_; rintro e w' ⟨rfl, nd, rfl⟩))))
  go_wp2_with (first | (go_at_call 45; first | (with_reducible refine (c6 _).mono ?_; rintro e w' ⟨rfl, rfl⟩)) | (go_at_call 46; first | (with_reducible refine (c7 _).mono ?_; rintro e w' ⟨rfl, rfl⟩)))
  go_region_held3 (fun w' => w'.cell? ⟨w.heap.size, 0, none⟩ = some (.int .u64 x1) ∧ w'.cell? ⟨w.heap.size, 1, none⟩ = some (.int .u64 y1) ∧ w'.cell? ⟨w.heap.size, 2, none⟩ = some (.int .u64 z1) ∧ w'.cell? ⟨w.heap.size + 1, 0, none⟩ = some (.int .u64 x2) ∧ w'.cell? ⟨w.heap.size + 1, 1, none⟩ = some (.int .u64 y2) ∧ w'.cell? ⟨w.heap.size + 1, 2, none⟩ = some (.int .u64 z2)) (go_keep)
    ((first | (go_at_call 44; first | (with_reducible refine (c8 _).mono ?_; rintro e w' ⟨rfl, nd, rfl⟩) | (with_reducible refine (c9 _).mono ?_; rintro e w' ⟨rfl, nd, rfl⟩)) | (go_at_call 46; first | (with_reducible refine (c10 _).mono ?_; rintro e w' ⟨rfl, rfl⟩))))
  go_wp2
  go_region_held3 (fun w' => w'.cell? ⟨w.heap.size, 0, none⟩ = some (.int .u64 x1) ∧ w'.cell? ⟨w.heap.size, 1, none⟩ = some (.int .u64 y1) ∧ w'.cell? ⟨w.heap.size, 2, none⟩ = some (.int .u64 z1) ∧ w'.cell? ⟨w.heap.size + 1, 0, none⟩ = some (.int .u64 x2) ∧ w'.cell? ⟨w.heap.size + 1, 1, none⟩ = some (.int .u64 y2) ∧ w'.cell? ⟨w.heap.size + 1, 2, none⟩ = some (.int .u64 z2)) (go_keep)
    ((first | (go_at_call 44; first | (with_reducible refine (c4 _).mono ?_; rintro e w' ⟨rfl, nd, rfl⟩) | (with_reducible refine (c2 _).mono ?_; rintro e w' ⟨rfl, nd, rfl⟩)) | (go_at_call 46; first | (with_reducible refine (c11 _).mono ?_; rintro e w' ⟨rfl, rfl⟩))))
  go_wp2_with (first | (go_at_call 44; first | (with_reducible refine (c12 _).mono ?_; rintro e w' ⟨rfl, nd, rfl⟩) | (with_reducible refine (c13 _).mono ?_; rintro e w' ⟨rfl, nd, rfl⟩) | (with_reducible refine (c14 _).mono ?_; rintro e w' ⟨rfl, nd, rfl⟩) | (with_reducible refine (c15 _).mono ?_; rintro e w' ⟨rfl, nd, rfl⟩) | (with_reducible refine (c16 _).mono ?_; rintro e w' ⟨rfl, nd, rfl⟩)))
  exact bodyPost_ret (v := .agg #[.int .u64 r2, .int .u64 s2, .int .u64 t]) (by simp [results, Tryd.results27, go_sem, *]) rfl ⟨rfl, by (repeat' (first | (with_reducible first | exact Below.refl _ _ | assumption | refine Below.alloc ?_ ?_ _ | refine Below.drew ?_ | refine below_drewN ?_ _ | refine Below.setCell ?_ ?_ _ | refine below_via (by with_reducible assumption) ?_ ?_) | omega | (simp only [szs]; omega) | (simp only [szs] at *; omega)))⟩
theorem esumW (a b : Ob.Wt) (w : World) :
    Calls Tryd.prog 27 #[wtV a, wtV b] w fun e w' => e = .returned (wtV (Ob.wsum a b)) ∧ Below w.heap.size w w' := by
  have c3 := etimesW 439 (a.1 * b.1).val (by decide) (Ob.G_word _)
  rw [Ob.toG_of_val, Ob.toG_439] at c3
  exact esum_core _ _ _ _ _ _ _ _ _ _ _ _ _ _ _ _ _ _ _ _ _ _ _ w (etimesF _ _) (etimesF _ _) (etimesF _ _) c3 (etimesF _ _) (etimesF _ _) (eminusF _ _) (eplusF _ _) (etimesF _ _) (etimesF _ _) (eplusF _ _) (eplusF _ _) (etimesF _ _) (etimesF _ _) (etimesF _ _) (etimesF _ _) (etimesF _ _)
end Go.Proofs.YtkekomiaiaacaaaDoor

namespace Ob
set_option linter.unusedVariables false
set_option linter.unusedSimpArgs false

abbrev SE : Nat := 72057593894066549
theorem prime67 : Prime 67 := prime_of_trial 67 9 (by decide) (by decide) (by decide +kernel)
theorem prime317 : Prime 317 := prime_of_trial 317 18 (by decide) (by decide) (by decide +kernel)
theorem prime57251 : Prime 57251 := prime_of_trial 57251 240 (by decide) (by decide) (by decide +kernel)
theorem prime14815033 : Prime 14815033 := prime_of_trial 14815033 3850 (by decide +kernel) (by decide +kernel) (by decide +kernel)
theorem S_sub : SE - 1 = 2 ^ 2 * 67 * 317 * 57251 * 14815033 := by decide +kernel
theorem lucasS : Lucas SE 2 where
  two := by decide +kernel
  one := pow_of_powm (by decide +kernel) (by decide +kernel)
  ne := by
    intro q hq hd
    rw [S_sub] at hd
    have h : q = 2 ∨ q = 67 ∨ q = 317 ∨ q = 57251 ∨ q = 14815033 := by
      rcases hq.dvd_mul hd with hd | hd
      · rcases hq.dvd_mul hd with hd | hd
        · rcases hq.dvd_mul hd with hd | hd
          · rcases hq.dvd_mul hd with hd | hd
            · exact Or.inl (hq.eq_of_dvd prime2 (hq.dvd_pow hd))
            · exact Or.inr (Or.inl (hq.eq_of_dvd prime67 hd))
          · exact Or.inr (Or.inr (Or.inl (hq.eq_of_dvd prime317 hd)))
        · exact Or.inr (Or.inr (Or.inr (Or.inl (hq.eq_of_dvd prime57251 hd))))
      · exact Or.inr (Or.inr (Or.inr (Or.inr (hq.eq_of_dvd prime14815033 hd))))
    have ne : ∀ k, (SE - 1) / k < 2 ^ 64 → powm SE 64 2 ((SE - 1) / k) ≠ 1 → 2 ^ ((SE - 1) / k) % SE ≠ 1 := fun k h1 h2 h3 => h2 (by rw [powm_eq SE 64 2 _ h1]; exact h3)
    rcases h with h | h | h | h | h
    all_goals
      subst h
      exact ne _ (by decide +kernel) (by decide +kernel)
theorem primeS : Prime SE := lucasS.prime

/-! The first point, doubled and added -/
def gGen : Ep := (223588670687113535, 82055451961885530)
theorem onG_gen : onG gGen := by show (82055451961885530 : Fin RE) * 82055451961885530 = 1 + 223588670687113535 * 223588670687113535 + 439 * (223588670687113535 * 223588670687113535 * (82055451961885530 * 82055451961885530)); decide +kernel
/-- Is t the sum of two points? (To be reckoned.) -/
def isSum (u v t : Ep) : Bool := t.1 * (1 + gk u v) == u.1 * v.2 + u.2 * v.1 && t.2 * (1 - gk u v) == u.2 * v.2 + u.1 * v.1
theorem isSum_add {u v t : Ep} (hu : onG u) (hv : onG v) (h : isSum u v t = true) : gadd u v = t := by
  unfold isSum at h
  rw [Bool.and_eq_true, beq_iff_eq, beq_iff_eq] at h
  exact Gsum_unique hu hv (Gsum_add hu hv) h
/-- A walk from the highest bit on: each row the double and, where the bit is 1, the sum with the first point. -/
def chk : Ep → List (Ep × Option Ep) → Ep → Bool
  | p, [], e => p == e
  | p, (q, none) :: l, e => isSum p p q && chk q l e
  | p, (q, some r) :: l, e => isSum p p q && isSum q gGen r && chk r l e
def chkN : Nat → List (Ep × Option Ep) → Nat
  | n, [] => n
  | n, (_, none) :: l => chkN (2 * n) l
  | n, (_, some _) :: l => chkN (2 * n + 1) l
theorem chk_mul : ∀ (l : List (Ep × Option Ep)) (p e : Ep) (n : Nat), gmul gGen n = p → chk p l e = true → gmul gGen (chkN n l) = e
  | [], p, e, n, hp, h => by
    unfold chk at h
    rw [beq_iff_eq] at h
    show gmul gGen n = e
    rw [hp, h]
  | (q, none) :: l, p, e, n, hp, h => by
    unfold chk at h
    rw [Bool.and_eq_true] at h
    have hon : onG p := hp ▸ onG_mul onG_gen n
    refine chk_mul l q e (2 * n) ?_ h.2
    rw [show 2 * n = n + n by omega, gmul_add onG_gen, hp]
    exact isSum_add hon hon h.1
  | (q, some r) :: l, p, e, n, hp, h => by
    unfold chk at h
    rw [Bool.and_eq_true, Bool.and_eq_true] at h
    have hon : onG p := hp ▸ onG_mul onG_gen n
    have e1 : gmul gGen (2 * n) = q := by
      rw [show 2 * n = n + n by omega, gmul_add onG_gen, hp]
      exact isSum_add hon hon h.1.1
    refine chk_mul l r e (2 * n + 1) ?_ h.2
    show gadd (gmul gGen (2 * n)) gGen = r
    have hq : onG q := e1 ▸ onG_mul onG_gen _
    rw [e1]
    exact isSum_add hq onG_gen h.1.2
def genRows : List (Ep × Option Ep) := [((215313104986860010, 182547805408397888), some (137793467179215122, 116235547721284618)), ((170317750279325719, 34670886643523254), some (252582691122900600, 251385050685503184)), ((247926893226952788, 168895567628064189), some (38124488070607937, 51197260139713676)), ((224485540305499475, 149489825702233031), some (39811595967729766, 213931579236519217)), ((123213619262012489, 47212235094765880), some (185206689396785223, 101319579035791570)), ((22042517405029254, 231186499481089032), some (250403946215291460, 97881651140171071)), ((176311690358610639, 77891349406648079), some (281460914275521354, 91990006374410385)), ((146080706815614832, 273483273053652661), some (110984812530433696, 204801505181883256)), ((141614863265849512, 136378954256596218), some (215754066012529874, 146872247862241090)), ((55080701174846009, 203334564428798386), some (118859373834926922, 179683276363721181)), ((161567363734772421, 250505779753349651), some (244896956301849774, 140710756062607636)), ((10391725747671709, 91612661375988500), some (52475736343698312, 237041389374839392)), ((2495212106157874, 251796509324935624), some (141410109812936162, 105236895077398087)), ((26767092443094691, 190388310876061676), some (19144510057788503, 212541364511528590)), ((235549395840195075, 283050734091825947), some (280014741002143856, 43444992624292836)), ((189217925228284548, 108897433649210086), some (242171169931519272, 100998049029756700)), ((179951434884853881, 37832380704445023), some (199821323881336996, 255059490964745996)), ((162852455508667164, 233264566906229983), some (45544186477517093, 151777488142700673)), ((187537097320717849, 119621405571752163), some (71561206993417521, 7280499292541923)), ((272756371256911801, 119214672176428243), some (111797133120816477, 166512544969220913)), ((236348718683982560, 92790003435887833), some (212987838471544997, 216061922420791731)), ((62363869421782793, 198653416360106449), some (22461095061867375, 147402757276516603)), ((72918566480997368, 73749633741772723), some (197295949494554537, 183585268537190235)), ((184577754754004649, 155756462375362852), some (169667098458170022, 68508860876689537)), ((178703837680662782, 20031625097404699), some (5827227359692351, 73047367685206042)), ((153745732264660709, 74189550035914868), some (21037802086533738, 15245259410897481)), ((59630042852466127, 148298061306787111), some (232848509575103009, 71776234500639568)), ((120358349233594524, 166691265164299890), none), ((39659936328836640, 183441566438203688), some (51238715347129739, 211533194032784038)), ((142643654498095447, 202278125514474615), some (73422190601644435, 198217522438261579)), ((172955864417556541, 212738914445881005), some (190998904101557839, 103198946546068656)), ((52782770539921610, 208943211345735028), none), ((249613780951124875, 239138827817555504), some (90562847333659085, 83765937641729505)), ((43893718665270902, 214747889618285129), some (27458231121853464, 280863975840921913)), ((190612471176197922, 244925925575431398), none), ((2828280512565373, 15749671383264935), some (14508079584920847, 100249537115564803)), ((227959080549803748, 55579466088836995), some (185415132377444258, 10650555306855857)), ((151742624243187719, 171610711199658122), none), ((124434845760531856, 239033492630421330), none), ((90365935557119977, 262760647737560290), some (237569889562835853, 184410742891296946)), ((102138912243981590, 153491116391842058), some (185090025423327152, 237771980720297492)), ((89490364885984354, 60859707086337439), none), ((152769945632781913, 142888533143164447), some (203439815992749, 71244376888951031)), ((41152493024319430, 206881888022184845), some (206286837005120746, 32416465798426787)), ((212873934810239030, 50119981849391368), none), ((114835514102307115, 284339108330849671), none), ((120575154038271208, 140013935041591056), some (38609121784821140, 241215127176351080)), ((205672532209498366, 179719883246236387), none), ((258630834119261086, 16217074414626969), some (201520709558167018, 218908679295776723)), ((264324037548118259, 163727798564629242), some (109759202150961139, 210231654217883637)), ((74215259634877108, 156412314412808121), some (78561132449989528, 267302516294211788)), ((143924424767807043, 163987702738026459), none), ((228572233067488096, 204381460596954541), some (50712362355641072, 2)), ((88234739724193906, 47203778514800504), none), ((64641705600650946, 82055451961885530), some (0, 1))]
set_option maxRecDepth 100000 in
theorem gen_rows : chk gGen genRows gzero = true := by decide +kernel
theorem gen_count : chkN 1 genRows = SE := by decide +kernel
theorem gen_S : gmul gGen SE = gzero := by
  have h := chk_mul genRows gGen gzero 1 (gmul_one onG_gen) gen_rows
  rwa [gen_count] at h
theorem gen_ne : gGen ≠ gzero := by decide +kernel

/-! Four points whose double is 0, or whose double's is -/
def gFour : Ep := (gi, 0)
theorem onG_four : onG gFour := by show (0 : Fin RE) * 0 = 1 + gi * gi + 439 * (gi * gi * (0 * 0)); decide +kernel
theorem four_two : gmul gFour 2 = (0, -1) := by
  rw [gmul_two onG_four]
  exact isSum_add onG_four onG_four (by decide +kernel)
theorem onG_minus : onG (0, -1) := by show (-1 : Fin RE) * -1 = 1 + 0 * 0 + 439 * (0 * 0 * (-1 * -1)); decide +kernel
theorem four_four : gmul gFour 4 = gzero := by
  rw [show (4 : Nat) = 2 * 2 from rfl, ← gmul_mul onG_four, four_two, gmul_two onG_minus]
  exact isSum_add onG_minus onG_minus (by decide +kernel)
theorem four_div {N : Nat} (h : gmul gFour N = gzero) : 4 ∣ N := by
  have hg := gmul_gcd onG_four 4 N four_four h
  have hd : Nat.gcd 4 N ∣ 4 := Nat.gcd_dvd_left 4 N
  have hn : Nat.gcd 4 N ∣ N := Nat.gcd_dvd_right 4 N
  have hle := Nat.le_of_dvd (by decide) hd
  have hpos := Nat.pos_of_dvd_of_pos hd (by decide)
  generalize Nat.gcd 4 N = k at *
  have hk : k = 1 ∨ k = 2 ∨ k = 3 ∨ k = 4 := by omega
  rcases hk with rfl | rfl | rfl | rfl
  · rw [gmul_one onG_four] at hg; exact absurd hg (by decide +kernel)
  · rw [four_two] at hg; exact absurd hg (by decide +kernel)
  · exact absurd hd (by decide)
  · exact hn
theorem gen_div {N : Nat} (h : gmul gGen N = gzero) : SE ∣ N := by
  have hg := gmul_gcd onG_gen SE N gen_S h
  rcases primeS.2 _ (Nat.gcd_dvd_left SE N) with h1 | h1
  · rw [h1, gmul_one onG_gen] at hg
    exact absurd hg gen_ne
  · rw [← h1]; exact Nat.gcd_dvd_right SE N
/-- 8 S times any point is 0. -/
theorem eight_S {u : Ep} (hu : onG u) : gmul u (8 * SE) = gzero := by
  obtain ⟨L, nd, on, hl⟩ := all_points
  have hN := fun {a : Ep} (ha : onG a) => gorder_of L nd on ha
  have hpos : 0 < L.length := List.length_pos_of_mem ((on gzero).1 onG_zero)
  obtain ⟨a, ha⟩ := four_div (hN onG_four)
  obtain ⟨b, hb⟩ := gen_div (hN onG_gen)
  have hm : ∃ m, L.length = 4 * SE * m := by
    have e : 4 * a = SE * b := by rw [← ha, ← hb]
    exact ⟨b / 4, by rw [hb]; have : (4 : Nat) ∣ b := by (have : SE * b % 4 = b % 4 := by (rw [Nat.mul_mod, show SE % 4 = 1 from by decide +kernel, Nat.one_mul, Nat.mod_mod])); omega
                     obtain ⟨c, rfl⟩ := this; rw [Nat.mul_div_cancel_left c (by decide), Nat.mul_comm 4 SE, Nat.mul_assoc]⟩
  obtain ⟨m, hm⟩ := hm
  have hu0 := hN hu
  rw [hm] at hu0 hl hpos
  have hm2 : m = 1 ∨ m = 2 := by
    have h1 : 4 * 72057593894066549 * m ≤ 2 * 288230376287764481 := hl
    have h2 : 0 < 4 * 72057593894066549 * m := hpos
    omega
  rcases hm2 with rfl | rfl
  · rw [show 8 * SE = 4 * SE * 1 * 2 by omega, ← gmul_mul hu, hu0, gmul_zero]
  · rw [show 8 * SE = 4 * SE * 2 by omega]; exact hu0
theorem two_zero {u : Ep} (hu : onG u) (h : gadd u u = gzero) : u = gzero ∨ u = (0, -1) := by
  have hs := Gsum_add hu hu
  rw [h] at hs
  have hn := gadd_neg hu
  have e : u = gneg u := gadd_left hu hu (onG_neg hu) (h.trans hn.symm)
  have hx : u.1 = 0 := by
    have e1 : u.1 = 0 - u.1 := congrArg Prod.fst e
    generalize u.1 = x at e1
    have : (2 : Fin RE) * x = 0 := by clear hu hs hn e h; grobner
    rcases Gmul_zero this with h | h
    · exact absurd h g2_ne
    · exact h
  obtain ⟨x, y⟩ := u
  dsimp only at hx
  subst hx
  have hy : y * y = 1 := by
    have h0 : y * y = 1 + 0 * 0 + 439 * (0 * 0 * (y * y)) := hu
    generalize (439 : Fin RE) = d at h0
    clear hs hn e h hu
    grobner
  have : (y - 1) * (y + 1) = 0 := by clear hs hn e h hu; grobner
  rcases Gmul_zero this with h | h
  · left; show (0, y) = ((0 : Fin RE), (1 : Fin RE)); rw [show y = 1 by clear hs hn e hu; grobner]
  · right; rw [show y = -1 by clear hs hn e hu; grobner]
/-- No point's double is one of the two whose double is (0, -1). -/
theorem half_none {u : Ep} (hu : onG u) : (gadd u u).2 ≠ 0 := fun h => by
  have hs := (Gsum_add hu hu).2
  rw [h] at hs
  have h1 : u.2 * u.2 = 1 + u.1 * u.1 + 439 * (u.1 * u.1 * (u.2 * u.2)) := hu
  have dn := d1_nosq (439 * (u.1 * u.1) - 1)
  apply dn
  clear dn h hu
  generalize u.1 = x at *
  generalize u.2 = y at *
  generalize gk u u = k at *
  have e440 : (440 : Fin RE) = 439 + 1 := by decide +kernel
  rw [e440]
  generalize (439 : Fin RE) = d at *
  clear e440
  grobner
theorem two_minus {u : Ep} (hu : onG u) (h : gadd u u = (0, -1)) : u.2 = 0 := by
  have hs := Gsum_add hu hu
  rw [h] at hs
  obtain ⟨s1, s2⟩ := hs
  have h1 : u.2 * u.2 = 1 + u.1 * u.1 + 439 * (u.1 * u.1 * (u.2 * u.2)) := hu
  have hk : gk u u = 439 * (u.1 * u.1 * (u.2 * u.2)) := rfl
  generalize gk u u = k at *
  dsimp only at s1 s2
  have hxy : u.1 * u.2 = 0 := by
    generalize u.1 = x at *; generalize u.2 = y at *
    have : (2 : Fin RE) * (x * y) = 0 := by clear s2 h1 hk hu h; grobner
    rcases Gmul_zero this with h | h
    · exact absurd h g2_ne
    · exact h
  rcases Gmul_zero hxy with hx | hy
  · exfalso
    generalize u.1 = x at *; generalize u.2 = y at *
    subst hx
    have : (2 : Fin RE) = 0 := by
      generalize (439 : Fin RE) = d at *
      clear s1 hxy hu h
      grobner
    exact g2_ne this
  · exact hy
/-- 4 S times any point is 0. -/
theorem four_S {u : Ep} (hu : onG u) : gmul u (4 * SE) = gzero := by
  have hq := onG_mul hu SE
  have e8 : gadd (gmul (gmul u SE) 4) (gmul (gmul u SE) 4) = gzero := by
    rw [← gmul_add hq, gmul_mul hu, show SE * (4 + 4) = 8 * SE by omega]
    exact eight_S hu
  rw [show 4 * SE = SE * 4 by omega, ← gmul_mul hu]
  rcases two_zero (onG_mul hq 4) e8 with h | h
  · exact h
  · exfalso
    have e2 : gadd (gmul (gmul u SE) 2) (gmul (gmul u SE) 2) = (0, -1) := by rw [← gmul_add hq]; exact h
    have hy := two_minus (onG_mul hq 2) e2
    rw [gmul_two hq] at hy
    exact half_none hq hy
/-- Four times a point is of order S. -/
theorem S_four {u : Ep} (hu : onG u) : gmul (gmul u 4) SE = gzero := by rw [gmul_mul hu]; exact four_S hu
/-- Four times a point is 0 just if a coordinate is. -/
theorem four_zero {u : Ep} (hu : onG u) : gmul u 4 = gzero ↔ u.1 = 0 ∨ u.2 = 0 := by
  have e4 : gmul u 4 = gadd (gadd u u) (gadd u u) := by rw [show (4 : Nat) = 2 * 2 from rfl, ← gmul_mul hu, gmul_two hu, gmul_two (onG_add hu hu)]
  rw [e4]
  constructor
  · intro h
    rcases two_zero (onG_add hu hu) h with h1 | h1
    · rcases two_zero hu h1 with h2 | h2
      · left; rw [h2]; rfl
      · left; rw [h2]
    · right; exact two_minus hu h1
  · intro h
    have h1 : u.2 * u.2 = 1 + u.1 * u.1 + 439 * (u.1 * u.1 * (u.2 * u.2)) := hu
    rcases h with h | h
    · have hd : gadd u u = gzero := by
        refine Gsum_unique hu hu (Gsum_add hu hu) ?_
        unfold Gsum gk gzero
        dsimp only
        generalize u.1 = x at *; generalize u.2 = y at *; generalize (439 : Fin RE) = d at *
        clear hu e4
        constructor <;> grobner
      rw [hd, gadd_zero onG_zero]
    · have hd : gadd u u = (0, -1) := by
        refine Gsum_unique hu hu (Gsum_add hu hu) ?_
        unfold Gsum gk
        dsimp only
        generalize u.1 = x at *; generalize u.2 = y at *; generalize (439 : Fin RE) = d at *
        clear hu e4
        constructor <;> grobner
      rw [hd]
      exact isSum_add onG_minus onG_minus (by decide +kernel)
end Ob

namespace Go.Proofs.YtkekomiaiaacaaaDoor
open Go.RowKit Go.Proofs
set_option linter.unusedVariables false
set_option linter.unusedSimpArgs false
attribute [local go_sem ↓] Go.wp_at_zero Go.wp_at_succ

theorem edV_yes {x y : Nat} (h : Ob.isG x y = true) : Value.agg #[.int .u64 (x : Nat), .int .u64 (y : Nat)] = edV (Ob.ofG x y) := by
  obtain ⟨h1, h2⟩ := Ob.ofG_yes h
  unfold edV
  rw [← h1, ← h2]

set_option maxHeartbeats 2000000 in
theorem eadd_core (x1 y1 x2 y2 u1 v1 t1 u2 v2 t2 u v t x y : Int) (w : World)
   (c0 : ∀ w, Calls Tryd.prog 28 #[.agg #[.int .u64 x1, .int .u64 y1]] w fun e w' => e = .returned (.agg #[.int .u64 u1, .int .u64 v1, .int .u64 t1]) ∧ Below w.heap.size w w')
   (c1 : ∀ w, Calls Tryd.prog 28 #[.agg #[.int .u64 x2, .int .u64 y2]] w fun e w' => e = .returned (.agg #[.int .u64 u2, .int .u64 v2, .int .u64 t2]) ∧ Below w.heap.size w w')
   (c2 : ∀ w, Calls Tryd.prog 27 #[.agg #[.int .u64 u1, .int .u64 v1, .int .u64 t1], .agg #[.int .u64 u2, .int .u64 v2, .int .u64 t2]] w fun e w' => e = .returned (.agg #[.int .u64 u, .int .u64 v, .int .u64 t]) ∧ Below w.heap.size w w')
   (c3 : ∀ w, Calls Tryd.prog 26 #[.agg #[.int .u64 u, .int .u64 v, .int .u64 t]] w fun e w' => e = .returned (.agg #[.int .u64 x, .int .u64 y]) ∧ Below w.heap.size w w') :
    Calls Tryd.prog 16 #[.agg #[.int .u64 x1, .int .u64 y1], .agg #[.int .u64 x2, .int .u64 y2]] w fun e w' => e = .returned (.agg #[.int .u64 x, .int .u64 y]) ∧ Below w.heap.size w w' := by
  have n1 : ¬ (w.heap.size = w.heap.size + 1 + 1) := by omega
  have n2 : ¬ (w.heap.size + 1 + 1 = w.heap.size) := by omega
  go_enter Tryd.func16, Tryd.ntmps16
  go_wp2
  go_region_held3 (fun w' => w'.cell? ⟨w.heap.size, 0, none⟩ = some (.int .u64 x1) ∧ w'.cell? ⟨w.heap.size, 1, none⟩ = some (.int .u64 y1) ∧ w'.cell? ⟨w.heap.size + 1, 0, none⟩ = some (.int .u64 x2) ∧ w'.cell? ⟨w.heap.size + 1, 1, none⟩ = some (.int .u64 y2)) (go_keep)
    ((first | (go_at_call 28; first | (with_reducible refine (c0 _).mono ?_; rintro e w_c0 ⟨rfl, b_c0⟩; have z_c0 := b_c0.size; (try simp only [szs] at z_c0); (try (have q_c0_0 := own2 b_c0 (w.heap.size) (by first | omega | (simp only [szs]; omega)))); (try (have q_c0_1 := own2 b_c0 (w.heap.size + 1) (by first | omega | (simp only [szs]; omega)))); (try (have q_c0_2 := own2 b_c0 (w.heap.size + 1 + 1) (by first | omega | (simp only [szs]; omega))))) | (with_reducible refine (c1 _).mono ?_; rintro e w_c1 ⟨rfl, b_c1⟩; have z_c1 := b_c1.size; (try simp only [szs] at z_c1); (try (have q_c1_0 := own2 b_c1 (w.heap.size) (by first | omega | (simp only [szs]; omega)))); (try (have q_c1_1 := own2 b_c1 (w.heap.size + 1) (by first | omega | (simp only [szs]; omega)))); (try (have q_c1_2 := own2 b_c1 (w.heap.size + 1 + 1) (by first | omega | (simp only [szs]; omega)))))) | (go_at_call 27; first | (with_reducible refine (c2 _).mono ?_; rintro e w_c2 ⟨rfl, b_c2⟩; have z_c2 := b_c2.size; (try simp only [szs] at z_c2); (try (have q_c2_0 := own2 b_c2 (w.heap.size) (by first | omega | (simp only [szs]; omega)))); (try (have q_c2_1 := own2 b_c2 (w.heap.size + 1) (by first | omega | (simp only [szs]; omega)))); (try (have q_c2_2 := own2 b_c2 (w.heap.size + 1 + 1) (by first | omega | (simp only [szs]; omega)))))) | (go_at_call 26; first | (with_reducible refine (c3 _).mono ?_; rintro e w_c3 ⟨rfl, b_c3⟩; have z_c3 := b_c3.size; (try simp only [szs] at z_c3); (try (have q_c3_0 := own2 b_c3 (w.heap.size) (by first | omega | (simp only [szs]; omega)))); (try (have q_c3_1 := own2 b_c3 (w.heap.size + 1) (by first | omega | (simp only [szs]; omega)))); (try (have q_c3_2 := own2 b_c3 (w.heap.size + 1 + 1) (by first | omega | (simp only [szs]; omega))))))))
  go_wp2
  exact bodyPost_ret (v := .agg #[.int .u64 x, .int .u64 y]) (by simp [results, Tryd.results16, go_sem, *]) rfl ⟨rfl, by (repeat' (first | (with_reducible first | exact Below.refl _ _ | assumption | refine Below.alloc ?_ ?_ _ | refine Below.drew ?_ | refine below_drewN ?_ _ | refine Below.setCell ?_ ?_ _ | refine below_via (by with_reducible assumption) ?_ ?_) | omega | (simp only [szs]; omega) | (simp only [szs] at *; omega)))⟩
theorem eaddW (x1 y1 x2 y2 : Nat) (hx1 : x1 < 18446744073709551616) (hy1 : y1 < 18446744073709551616) (hx2 : x2 < 18446744073709551616) (hy2 : y2 < 18446744073709551616) (w : World) :
    Calls Tryd.prog 16 #[.agg #[.int .u64 x1, .int .u64 y1], .agg #[.int .u64 x2, .int .u64 y2]] w fun e w' => e = .returned (edV (Ob.gadd (Ob.ofG x1 y1) (Ob.ofG x2 y2))) ∧ Below w.heap.size w w' :=
  eadd_core x1 y1 x2 y2 _ _ _ _ _ _ _ _ _ _ _ w (ewidenW x1 y1 hx1 hy1) (ewidenW x2 y2 hx2 hy2) (esumW _ _) (enarrowW ((Ob.Wide.of _).sum (Ob.Wide.of _) (Ob.ofG_on _ _) (Ob.ofG_on _ _)))


end Go.Proofs.YtkekomiaiaacaaaDoor

namespace Go.Proofs.YtkekomiaiaacaaaDoor
open Go.RowKit Go.Proofs
set_option linter.unusedVariables false
set_option linter.unusedSimpArgs false
attribute [local go_sem ↓] Go.wp_at_zero Go.wp_at_succ

theorem zero_of : Ob.ofG 0 1 = Ob.gzero := Ob.ofG_val Ob.onG_zero

set_option maxHeartbeats 8000000 in
theorem emulW (x y k : Nat) (hx : x < 18446744073709551616) (hy : y < 18446744073709551616) (hk : k < 18446744073709551616) (w : World) :
    Calls Tryd.prog 41 #[.agg #[.int .u64 x, .int .u64 y], .int .u64 k] w fun e w' => e = .returned (edV (Ob.gmul (Ob.ofG x y) k)) ∧ Below w.heap.size w w' := by
  have c1 := ewidenW x y hx hy
  have c0 := ewidenW 0 1 (by decide) (by decide)
  rw [zero_of] at c0
  have ca : ∀ w, Calls Tryd.prog 28 #[.agg #[.int .u64 0, .int .u64 1]] w fun e w' => e = .returned (.agg #[.int .u64 0, .int .u64 1, .int .u64 1]) ∧ Below w.heap.size w w' := c0
  clear c0
  have cz := ezeroW
  have on0 : Hid (Ob.onG (Ob.ofG x y)) := Ob.ofG_on x y
  obtain ⟨u, hu⟩ : ∃ u, Hid (Ob.ofG x y = u) := ⟨_, rfl⟩
  rw [hu.out] at c1 on0 ⊢
  obtain ⟨T, hT⟩ : ∃ T, Hid (T = Ob.gmul u k) := ⟨_, rfl⟩
  have hstart : Hid (Ob.gadd Ob.gzero (Ob.gmul u k) = T) := by rw [hT.out]; exact Ob.zero_gadd (Ob.onG_mul on0.out k)
  rw [← hT.out]
  have hwu : Hid (Ob.Wide (u.1, u.2, 1) u) := Ob.Wide.of u
  obtain ⟨a, ha⟩ : ∃ a : Ob.Wt, Hid ((u.1, u.2, 1) = a) := ⟨_, rfl⟩
  rw [ha.out] at c1 hwu
  clear hT hu ha hx hy
  unfold wtV at c1
  go_enter Tryd.func41, Tryd.ntmps41
  go_upto_region 1 with (fail)
  have ta : Two ((w.alloc (.cells #[.int .u64 x, .int .u64 y] 25)).alloc (.cells #[.int .u64 0, .int .u64 0] 25)) w.heap.size (.int .u64 x) (.int .u64 y) := by (repeat' (first | (with_reducible first | assumption | exact Two.own (by with_reducible assumption) | refine Two.set ?_ _ _ | refine Own2.set ?_ _ _ | refine Two.drew ?_ | refine Two.drewN ?_ _ | refine Own2.drew ?_ | refine Own2.drewN ?_ _ | (refine Two.new ?_; simp only [szs]; done) | (refine Own2.new ?_; simp only [szs]; done) | refine Two.alloc ?_ _ | refine Own2.alloc ?_ _ | refine Two.far ?_ ?_ _ _ | refine Own2.far ?_ ?_ _ _ | refine Two.via (by with_reducible assumption) ?_ ?_ | refine Own2.via (by with_reducible assumption) ?_ ?_) | omega | (simp only [szs]; omega)))
  go_cut [5, 6] (fun s5 s6 wx => ∃ b5 b6 : Nat, s5 = .pointer (some ⟨b5, 0, none⟩) ∧ s6 = .pointer (some ⟨b6, 0, none⟩) ∧ b5 ≠ b6 ∧ w.heap.size + 1 < b5 ∧ w.heap.size + 1 < b6 ∧
    Two wx (w.heap.size + 1) (.int .u64 0) (.int .u64 0) ∧ Three wx b5 (.int .u64 0) (.int .u64 1) (.int .u64 1) ∧ Three wx b6 (.int .u64 (a.1.val : Nat)) (.int .u64 (a.2.1.val : Nat)) (.int .u64 (a.2.2.val : Nat)) ∧ Below w.heap.size w wx)
  case first =>
    have n1 : ¬ (w.heap.size + 1 + 1 = w.heap.size) := by omega
    have n2 : ¬ (w.heap.size = w.heap.size + 1 + 1) := by omega
    have n3 : ¬ (w.heap.size + 1 + 1 + 1 = w.heap.size) := by omega
    have n4 : ¬ (w.heap.size = w.heap.size + 1 + 1 + 1) := by omega
    go_region_held3 (fun w' => w'.cell? ⟨w.heap.size, 0, none⟩ = some (.int .u64 x) ∧ w'.cell? ⟨w.heap.size, 1, none⟩ = some (.int .u64 y)) (go_keep)
      ((first | (go_at_call 48; first | (with_reducible refine (cz _).mono ?_; rintro e w_cz ⟨rfl, b_cz⟩; have z_cz := b_cz.size; (try simp only [szs] at z_cz); (try (have q_cz_0 := own2 b_cz (w.heap.size) (by first | omega | (simp only [szs]; omega)))); (try (have q_cz_1 := own2 b_cz (w.heap.size + 1) (by first | omega | (simp only [szs]; omega)))); (try (have q_cz_2 := own3 b_cz (w.heap.size + 1 + 1) (by first | omega | (simp only [szs]; omega)))); (try (have q_cz_3 := own3 b_cz (w.heap.size + 1 + 1 + 1) (by first | omega | (simp only [szs]; omega)))); (try (have q_cz_4 := own3 b_cz (w_cz.heap.size) (by first | omega | (simp only [szs]; omega)))); (try (have q_cz_5 := own3 b_cz (w_cz.heap.size + 1) (by first | omega | (simp only [szs]; omega)))); (try (have q_cz_6 := own3 b_cz (w_ca.heap.size) (by first | omega | (simp only [szs]; omega)))); (try (have q_cz_7 := own3 b_cz (w_ca.heap.size + 1) (by first | omega | (simp only [szs]; omega)))); (try ((try have k1 : ¬ (w_ca.heap.size + 1 = w.heap.size) := by omega); (try have k2 : ¬ (w_cz.heap.size + 1 = w.heap.size) := by omega); (try have k3 : ¬ (w_ca.heap.size + 1 = w_cz.heap.size) := by omega); (try have k4 : ¬ (w_ca.heap.size + 1 = w.heap.size + 1 + 1) := by omega); (try have k5 : ¬ (w_cz.heap.size + 1 = w.heap.size + 1 + 1) := by omega))))) | (go_at_call 28; first | (with_reducible refine (ca _).mono ?_; rintro e w_ca ⟨rfl, b_ca⟩; have z_ca := b_ca.size; (try simp only [szs] at z_ca); (try (have q_ca_0 := own2 b_ca (w.heap.size) (by first | omega | (simp only [szs]; omega)))); (try (have q_ca_1 := own2 b_ca (w.heap.size + 1) (by first | omega | (simp only [szs]; omega)))); (try (have q_ca_2 := own3 b_ca (w.heap.size + 1 + 1) (by first | omega | (simp only [szs]; omega)))); (try (have q_ca_3 := own3 b_ca (w.heap.size + 1 + 1 + 1) (by first | omega | (simp only [szs]; omega)))); (try (have q_ca_4 := own3 b_ca (w_cz.heap.size) (by first | omega | (simp only [szs]; omega)))); (try (have q_ca_5 := own3 b_ca (w_cz.heap.size + 1) (by first | omega | (simp only [szs]; omega)))); (try (have q_ca_6 := own3 b_ca (w_ca.heap.size) (by first | omega | (simp only [szs]; omega)))); (try (have q_ca_7 := own3 b_ca (w_ca.heap.size + 1) (by first | omega | (simp only [szs]; omega)))); (try ((try have k1 : ¬ (w_ca.heap.size + 1 = w.heap.size) := by omega); (try have k2 : ¬ (w_cz.heap.size + 1 = w.heap.size) := by omega); (try have k3 : ¬ (w_ca.heap.size + 1 = w_cz.heap.size) := by omega); (try have k4 : ¬ (w_ca.heap.size + 1 = w.heap.size + 1 + 1) := by omega); (try have k5 : ¬ (w_cz.heap.size + 1 = w.heap.size + 1 + 1) := by omega)))) | (with_reducible refine (c1 _).mono ?_; rintro e w_c1 ⟨rfl, b_c1⟩; have z_c1 := b_c1.size; (try simp only [szs] at z_c1); (try (have q_c1_0 := own2 b_c1 (w.heap.size) (by first | omega | (simp only [szs]; omega)))); (try (have q_c1_1 := own2 b_c1 (w.heap.size + 1) (by first | omega | (simp only [szs]; omega)))); (try (have q_c1_2 := own3 b_c1 (w.heap.size + 1 + 1) (by first | omega | (simp only [szs]; omega)))); (try (have q_c1_3 := own3 b_c1 (w.heap.size + 1 + 1 + 1) (by first | omega | (simp only [szs]; omega)))); (try (have q_c1_4 := own3 b_c1 (w_cz.heap.size) (by first | omega | (simp only [szs]; omega)))); (try (have q_c1_5 := own3 b_c1 (w_cz.heap.size + 1) (by first | omega | (simp only [szs]; omega)))); (try (have q_c1_6 := own3 b_c1 (w_ca.heap.size) (by first | omega | (simp only [szs]; omega)))); (try (have q_c1_7 := own3 b_c1 (w_ca.heap.size + 1) (by first | omega | (simp only [szs]; omega)))); (try ((try have k1 : ¬ (w_ca.heap.size + 1 = w.heap.size) := by omega); (try have k2 : ¬ (w_cz.heap.size + 1 = w.heap.size) := by omega); (try have k3 : ¬ (w_ca.heap.size + 1 = w_cz.heap.size) := by omega); (try have k4 : ¬ (w_ca.heap.size + 1 = w.heap.size + 1 + 1) := by omega); (try have k5 : ¬ (w_cz.heap.size + 1 = w.heap.size + 1 + 1) := by omega)))))))
    all_goals
      go_wp2
      go_meet
      case rel => exact ⟨_, _, rfl, rfl, by omega, by omega, by omega, by (repeat' (first | (with_reducible first | assumption | exact Two.own (by with_reducible assumption) | refine Two.set ?_ _ _ | refine Own2.set ?_ _ _ | refine Two.drew ?_ | refine Two.drewN ?_ _ | refine Own2.drew ?_ | refine Own2.drewN ?_ _ | (refine Two.new ?_; simp only [szs]; done) | (refine Own2.new ?_; simp only [szs]; done) | refine Two.alloc ?_ _ | refine Own2.alloc ?_ _ | refine Two.far ?_ ?_ _ _ | refine Own2.far ?_ ?_ _ _ | refine Two.via (by with_reducible assumption) ?_ ?_ | refine Own2.via (by with_reducible assumption) ?_ ?_) | omega | (simp only [szs]; omega))), by (repeat' (first | (with_reducible first | assumption | exact Three.own (by with_reducible assumption) | refine Three.set ?_ _ _ _ | refine Own3.set ?_ _ _ _ | refine Three.drew ?_ | refine Three.drewN ?_ _ | refine Own3.drew ?_ | refine Own3.drewN ?_ _ | (refine Three.new ?_; simp only [szs]; done) | (refine Own3.new ?_; simp only [szs]; done) | refine Three.alloc ?_ _ | refine Own3.alloc ?_ _ | refine Three.far ?_ ?_ _ _ | refine Own3.far ?_ ?_ _ _ | refine Three.via (by with_reducible assumption) ?_ ?_ | refine Own3.via (by with_reducible assumption) ?_ ?_) | omega | (simp only [szs]; omega))), by (repeat' (first | (with_reducible first | assumption | exact Three.own (by with_reducible assumption) | refine Three.set ?_ _ _ _ | refine Own3.set ?_ _ _ _ | refine Three.drew ?_ | refine Three.drewN ?_ _ | refine Own3.drew ?_ | refine Own3.drewN ?_ _ | (refine Three.new ?_; simp only [szs]; done) | (refine Own3.new ?_; simp only [szs]; done) | refine Three.alloc ?_ _ | refine Own3.alloc ?_ _ | refine Three.far ?_ ?_ _ _ | refine Own3.far ?_ ?_ _ _ | refine Three.via (by with_reducible assumption) ?_ ?_ | refine Own3.via (by with_reducible assumption) ?_ ?_) | omega | (simp only [szs]; omega))), by (repeat' (first | (with_reducible first | exact Below.refl _ _ | assumption | refine Below.alloc ?_ ?_ _ | refine Below.drew ?_ | refine below_drewN ?_ _ | refine Below.setCell ?_ ?_ _ | refine below_via (by with_reducible assumption) ?_ ?_) | omega | (simp only [szs]; omega) | (simp only [szs] at *; omega)))⟩
  case rest =>
    obtain ⟨b5, b6, rfl, rfl, hne, l5, l6, tR, t5, t6, hB⟩ := hcut
    clear c1 ca cz ta
    have m1 : ¬ (b6 = b5) := fun h => hne h.symm
    have m2 : ¬ (b5 = w.heap.size + 1) := by omega
    have m3 : ¬ (b6 = w.heap.size + 1) := by omega
    have m4 : ¬ (w.heap.size + 1 = b5) := by omega
    have m5 : ¬ (w.heap.size + 1 = b6) := by omega
    go_wp2
    go_loopw [1] (fun se wr => ∃ (A B : Ob.Wt) (p q : Ob.Ep) (E : Nat), Hid (Ob.Wide A p) ∧ Hid (Ob.Wide B q) ∧ Hid (Ob.onG p) ∧ Hid (Ob.onG q) ∧ E < 18446744073709551616 ∧ se = .int .u64 E ∧
      Two wr (w.heap.size + 1) (.int .u64 0) (.int .u64 0) ∧ Three wr b5 (.int .u64 (A.1.val : Nat)) (.int .u64 (A.2.1.val : Nat)) (.int .u64 (A.2.2.val : Nat)) ∧ Three wr b6 (.int .u64 (B.1.val : Nat)) (.int .u64 (B.2.1.val : Nat)) (.int .u64 (B.2.2.val : Nat)) ∧ Below w.heap.size w wr ∧ Hid (Ob.gadd p (Ob.gmul q E) = T)) (fun se _ => (intOf se).toNat)
    case atStart =>
      exact ⟨(Ob.gzero.1, Ob.gzero.2, 1), a, Ob.gzero, u, k, Ob.Wide.of Ob.gzero, hwu, Ob.onG_zero, on0, hk, rfl, tR, t5, t6, hB, hstart⟩
    case round =>
      obtain ⟨A, B, p, q, E, hA, hBq, op, oq, hE, rfl, tR, t5, t6, hB, hI⟩ := hrel
      clear hstart hk hwu on0
      have ⟨d1, d2, d3, d4, d5⟩ := tR
      have ⟨e1, e2, e3, e4, e5, e6, e7⟩ := t5
      have ⟨g1, g2, g3, g4, g5, g6, g7⟩ := t6
      by_cases h0 : 0 < E
      · have hand := and_one E hE
        have sq := esumW B B
        have wq : Hid (Ob.Wide (Ob.wsum B B) (Ob.gadd q q)) := hBq.out.sum hBq.out oq.out oq.out
        have onq : Hid (Ob.onG (Ob.gadd q q)) := Ob.onG_add oq.out oq.out
        obtain ⟨B', hB'⟩ : ∃ B', Hid (B' = Ob.wsum B B) := ⟨_, rfl⟩
        rw [← hB'.out] at sq wq
        unfold wtV at sq
        by_cases h1 : E % 2 = 1
        · have h1' : ((E % 2 : Nat) : Int) = 1 := by omega
          rw [h1'] at hand
          clear h1'
          have ml := esumW A B
          have wp : Hid (Ob.Wide (Ob.wsum A B) (Ob.gadd p q)) := hA.out.sum hBq.out op.out oq.out
          have onp : Hid (Ob.onG (Ob.gadd p q)) := Ob.onG_add op.out oq.out
          obtain ⟨A', hA'⟩ : ∃ A', Hid (A' = Ob.wsum A B) := ⟨_, rfl⟩
          rw [← hA'.out] at ml wp
          unfold wtV at ml
          have hn : Hid (Ob.gadd (Ob.gadd p q) (Ob.gmul (Ob.gadd q q) (E / 2)) = T) := by rw [Ob.gmul_odd op.out oq.out _ h1]; exact hI
          clear h1 hI
          go_wp2_with (first | (go_at_call 27; first | (with_reducible refine (ml _).mono ?_; rintro e w_ml ⟨rfl, b_ml⟩; have z_ml := b_ml.size; (try simp only [szs] at z_ml); (try (have q_ml_0 := own2 b_ml (w.heap.size + 1) (by first | omega | (simp only [szs]; omega)))); (try (have q_ml_1 := own3 b_ml (b5) (by first | omega | (simp only [szs]; omega)))); (try (have q_ml_2 := own3 b_ml (b6) (by first | omega | (simp only [szs]; omega))))) | (with_reducible refine (sq _).mono ?_; rintro e w_sq ⟨rfl, b_sq⟩; have z_sq := b_sq.size; (try simp only [szs] at z_sq); (try (have q_sq_0 := own2 b_sq (w.heap.size + 1) (by first | omega | (simp only [szs]; omega)))); (try (have q_sq_1 := own3 b_sq (b5) (by first | omega | (simp only [szs]; omega)))); (try (have q_sq_2 := own3 b_sq (b6) (by first | omega | (simp only [szs]; omega)))))))
          go_roundw
          case rel => exact ⟨A', B', _, _, E / 2, wp, wq, onp, onq, by omega, by go_num, by (repeat' (first | (with_reducible first | assumption | exact Two.own (by with_reducible assumption) | refine Two.set ?_ _ _ | refine Own2.set ?_ _ _ | refine Two.drew ?_ | refine Two.drewN ?_ _ | refine Own2.drew ?_ | refine Own2.drewN ?_ _ | (refine Two.new ?_; simp only [szs]; done) | (refine Own2.new ?_; simp only [szs]; done) | refine Two.alloc ?_ _ | refine Own2.alloc ?_ _ | refine Two.far ?_ ?_ _ _ | refine Own2.far ?_ ?_ _ _ | refine Two.via (by with_reducible assumption) ?_ ?_ | refine Own2.via (by with_reducible assumption) ?_ ?_) | omega | (simp only [szs]; omega))), by (repeat' (first | (with_reducible first | assumption | exact Three.own (by with_reducible assumption) | refine Three.set ?_ _ _ _ | refine Own3.set ?_ _ _ _ | refine Three.drew ?_ | refine Three.drewN ?_ _ | refine Own3.drew ?_ | refine Own3.drewN ?_ _ | (refine Three.new ?_; simp only [szs]; done) | (refine Own3.new ?_; simp only [szs]; done) | refine Three.alloc ?_ _ | refine Own3.alloc ?_ _ | refine Three.far ?_ ?_ _ _ | refine Own3.far ?_ ?_ _ _ | refine Three.via (by with_reducible assumption) ?_ ?_ | refine Own3.via (by with_reducible assumption) ?_ ?_) | omega | (simp only [szs]; omega))), by (repeat' (first | (with_reducible first | assumption | exact Three.own (by with_reducible assumption) | refine Three.set ?_ _ _ _ | refine Own3.set ?_ _ _ _ | refine Three.drew ?_ | refine Three.drewN ?_ _ | refine Own3.drew ?_ | refine Own3.drewN ?_ _ | (refine Three.new ?_; simp only [szs]; done) | (refine Own3.new ?_; simp only [szs]; done) | refine Three.alloc ?_ _ | refine Own3.alloc ?_ _ | refine Three.far ?_ ?_ _ _ | refine Own3.far ?_ ?_ _ _ | refine Three.via (by with_reducible assumption) ?_ ?_ | refine Own3.via (by with_reducible assumption) ?_ ?_) | omega | (simp only [szs]; omega))), by (repeat' (first | (with_reducible first | exact Below.refl _ _ | assumption | refine Below.alloc ?_ ?_ _ | refine Below.drew ?_ | refine below_drewN ?_ _ | refine Below.setCell ?_ ?_ _ | refine below_via (by with_reducible assumption) ?_ ?_) | omega | (simp only [szs]; omega) | (simp only [szs] at *; omega))), hn⟩
          case measure => simp [intOf]; omega
        · have h1' : ((E % 2 : Nat) : Int) = 0 := by omega
          rw [h1'] at hand
          clear h1'
          have hn : Hid (Ob.gadd p (Ob.gmul (Ob.gadd q q) (E / 2)) = T) := by rw [Ob.gmul_even oq.out _ (by omega)]; exact hI
          clear h1 hI
          go_wp2_with (first | (go_at_call 27; first | (with_reducible refine (sq _).mono ?_; rintro e w_sq ⟨rfl, b_sq⟩; have z_sq := b_sq.size; (try simp only [szs] at z_sq); (try (have q_sq_0 := own2 b_sq (w.heap.size + 1) (by first | omega | (simp only [szs]; omega)))); (try (have q_sq_1 := own3 b_sq (b5) (by first | omega | (simp only [szs]; omega)))); (try (have q_sq_2 := own3 b_sq (b6) (by first | omega | (simp only [szs]; omega)))))))
          go_roundw
          case rel => exact ⟨A, B', p, _, E / 2, hA, wq, op, onq, by omega, by go_num, by (repeat' (first | (with_reducible first | assumption | exact Two.own (by with_reducible assumption) | refine Two.set ?_ _ _ | refine Own2.set ?_ _ _ | refine Two.drew ?_ | refine Two.drewN ?_ _ | refine Own2.drew ?_ | refine Own2.drewN ?_ _ | (refine Two.new ?_; simp only [szs]; done) | (refine Own2.new ?_; simp only [szs]; done) | refine Two.alloc ?_ _ | refine Own2.alloc ?_ _ | refine Two.far ?_ ?_ _ _ | refine Own2.far ?_ ?_ _ _ | refine Two.via (by with_reducible assumption) ?_ ?_ | refine Own2.via (by with_reducible assumption) ?_ ?_) | omega | (simp only [szs]; omega))), by (repeat' (first | (with_reducible first | assumption | exact Three.own (by with_reducible assumption) | refine Three.set ?_ _ _ _ | refine Own3.set ?_ _ _ _ | refine Three.drew ?_ | refine Three.drewN ?_ _ | refine Own3.drew ?_ | refine Own3.drewN ?_ _ | (refine Three.new ?_; simp only [szs]; done) | (refine Own3.new ?_; simp only [szs]; done) | refine Three.alloc ?_ _ | refine Own3.alloc ?_ _ | refine Three.far ?_ ?_ _ _ | refine Own3.far ?_ ?_ _ _ | refine Three.via (by with_reducible assumption) ?_ ?_ | refine Own3.via (by with_reducible assumption) ?_ ?_) | omega | (simp only [szs]; omega))), by (repeat' (first | (with_reducible first | assumption | exact Three.own (by with_reducible assumption) | refine Three.set ?_ _ _ _ | refine Own3.set ?_ _ _ _ | refine Three.drew ?_ | refine Three.drewN ?_ _ | refine Own3.drew ?_ | refine Own3.drewN ?_ _ | (refine Three.new ?_; simp only [szs]; done) | (refine Own3.new ?_; simp only [szs]; done) | refine Three.alloc ?_ _ | refine Own3.alloc ?_ _ | refine Three.far ?_ ?_ _ _ | refine Own3.far ?_ ?_ _ _ | refine Three.via (by with_reducible assumption) ?_ ?_ | refine Own3.via (by with_reducible assumption) ?_ ?_) | omega | (simp only [szs]; omega))), by (repeat' (first | (with_reducible first | exact Below.refl _ _ | assumption | refine Below.alloc ?_ ?_ _ | refine Below.drew ?_ | refine below_drewN ?_ _ | refine Below.setCell ?_ ?_ _ | refine below_via (by with_reducible assumption) ?_ ?_) | omega | (simp only [szs]; omega) | (simp only [szs] at *; omega))), hn⟩
          case measure => simp [intOf]; omega
      · have hn : Hid (p = T) := by
          have := hI.out
          have hE0 : E = 0 := by omega
          rw [hE0] at this
          exact (Ob.gadd_zero op.out).symm.trans this
        have cn := enarrowW hA.out
        unfold wtV edV at cn
        go_wp2_with (first | (go_at_call 26; first | (with_reducible refine (cn _).mono ?_; rintro e w_cn ⟨rfl, b_cn⟩; have z_cn := b_cn.size; (try simp only [szs] at z_cn); (try (have q_cn_0 := own2 b_cn (w.heap.size + 1) (by first | omega | (simp only [szs]; omega)))); (try (have q_cn_1 := own3 b_cn (b5) (by first | omega | (simp only [szs]; omega)))); (try (have q_cn_2 := own3 b_cn (b6) (by first | omega | (simp only [szs]; omega)))))))
        exact bodyPost_ret (v := .agg #[.int .u64 (p.1.val : Nat), .int .u64 (p.2.val : Nat)]) (by simp [results, Tryd.results41, go_sem, *]) rfl ⟨by rw [← hn.out]; rfl, by (repeat' (first | (with_reducible first | exact Below.refl _ _ | assumption | refine Below.alloc ?_ ?_ _ | refine Below.drew ?_ | refine below_drewN ?_ _ | refine Below.setCell ?_ ?_ _ | refine below_via (by with_reducible assumption) ?_ ?_) | omega | (simp only [szs]; omega) | (simp only [szs] at *; omega)))⟩
end Go.Proofs.YtkekomiaiaacaaaDoor

namespace Go.Proofs.YtkekomiaiaacaaaDoor
open Go.RowKit Go.Proofs
set_option linter.unusedVariables false
set_option linter.unusedSimpArgs false

theorem equalIn_Ed (d : Nat) (w : World) (x y x' y' : Int) : (Op.equalIn (d + 2) 25 (.agg #[.int .u64 x, .int .u64 y]) (.agg #[.int .u64 x', .int .u64 y'])).run Tryd.prog w = .ok (x == x' && y == y') w := by
  have hA : ∀ w : World, (isAgg 22).run Tryd.prog w = .ok false w := fun w => by kernel_rfl
  have hI : ∀ (w : World) (a b : Int), (Op.equalIn (d + 1) 22 (.int .u64 a) (.int .u64 b)).run Tryd.prog w = .ok (a == b) w := fun w a b => run_equalIn_int w d _ _ .u64 a b Tryd.underlying22
  unfold Op.equalIn
  simp only [Sem.run_bind, run_underlying Tryd.underlying25]
  cases h : (x == x') with
  | true =>
    cases h2 : (y == y') with
    | true => simp [go_sem, hA, hI, List.range', h, h2]
    | false => simp [go_sem, hA, hI, List.range', h, h2]
  | false => simp [go_sem, hA, hI, List.range', h]
theorem equal_Ed (w : World) (x y x' y' : Int) : (Op.equalIn 10000 25 (.agg #[.int .u64 x, .int .u64 y]) (.agg #[.int .u64 x', .int .u64 y'])).run Tryd.prog w = .ok (x == x' && y == y') w := equalIn_Ed 9998 w x y x' y'
/-- Whether it is 0. -/
def isZ (u : Ob.Ep) : Bool := decide (u = Ob.gzero)
theorem isZ_eq (u : Ob.Ep) : ((((u.1.val : Nat) : Int) == 0) && (((u.2.val : Nat) : Int) == 1)) = isZ u := by
  unfold isZ
  by_cases h : u = Ob.gzero
  · subst h; decide +kernel
  · rw [decide_eq_false h]
    rw [Bool.and_eq_false_iff]
    by_cases h1 : u.1.val = 0
    · refine Or.inr ?_
      have : u.2.val ≠ 1 := fun h2 => h (Prod.ext (Fin.ext h1) (Fin.ext h2))
      exact beq_eq_false_iff_ne.mpr (fun e => this (by omega))
    · refine Or.inl ?_
      exact beq_eq_false_iff_ne.mpr (fun e => h1 (by omega))
end Go.Proofs.YtkekomiaiaacaaaDoor

namespace Ob

def ODD : Nat := 1099511628295
theorem R_half : (R - 1) / 2 = ODD * 131072 := by decide +kernel
theorem R_half_at {k : Nat} (hk : k = 17) : (R - 1) / 2 = ODD * 2 ^ k := by rw [R_half, hk]
theorem three_half : 3 ^ ((R - 1) / 2) % R = R - 1 := pow_of_powm (by decide +kernel) (by decide +kernel)
theorem R_two : 2 ≤ R := by decide +kernel

/-- At the head of the round k: x x is a over; over's order divides 2^k; step's is 2^(k + 1). -/
structure Ton (a k x over step : Nat) : Prop where
  sq : x * x % R = a * over % R
  ov : over ^ 2 ^ k % R = 1
  st : step ^ 2 ^ k % R = R - 1

theorem Ton.start {a k : Nat} (hk : k = 17) (h : a ^ ((R - 1) / 2) % R = 1) : Ton a k (a ^ ((ODD + 1) / 2) % R) (a ^ ODD % R) (3 ^ ODD % R) where
  sq := by
    rw [← Nat.mul_mod, ← Nat.pow_add, mul_mod_right]
    have : (ODD + 1) / 2 + (ODD + 1) / 2 = ODD + 1 := by decide +kernel
    rw [this, Nat.pow_succ, Nat.mul_comm]
  ov := by rw [pow_mod_left, ← Nat.pow_mul, ← R_half_at hk]; exact h
  st := by rw [pow_mod_left, ← Nat.pow_mul, ← R_half_at hk]; exact three_half

theorem sq_pow (s k : Nat) : (s * s % R) ^ 2 ^ k % R = s ^ 2 ^ (k + 1) % R := by
  rw [square_pow, Nat.pow_succ, Nat.mul_comm (2 ^ k) 2]

/-- A round where over is left. -/
theorem Ton.keep {a k x over step : Nat} (h : Ton a (k + 1) x over step) (c : over ^ 2 ^ k % R = 1) : Ton a k x over (step * step % R) :=
  ⟨h.sq, c, by rw [sq_pow]; exact h.st⟩

/-- A round where over is turned. -/
theorem Ton.turn {a k x over step : Nat} (h : Ton a (k + 1) x over step) (c : over ^ 2 ^ k % R ≠ 1) : Ton a k (x * step % R) (over * (step * step % R) % R) (step * step % R) := by
  have hR := R_two
  have hm : over ^ 2 ^ k % R = R - 1 := by
    have h1 : (over ^ 2 ^ k % R) * (over ^ 2 ^ k % R) % R = 1 := by
      rw [← Nat.mul_mod, ← Nat.pow_add, ← Nat.two_mul, Nat.mul_comm, ← Nat.pow_succ]
      exact h.ov
    rcases primeR.square_one (Nat.mod_lt _ (by omega)) h1 with e | e
    · exact absurd e c
    · exact e
  refine ⟨?_, ?_, by rw [sq_pow]; exact h.st⟩
  · rw [← Nat.mul_mod, mul_mod_right]
    have e1 : x * step * (x * step) = x * x * (step * step) := by grind
    have e2 : a * (over * (step * step % R)) = a * over * (step * step % R) := by rw [Nat.mul_assoc]
    rw [e1, e2, mul_mod_right, Nat.mul_mod, h.sq, ← Nat.mul_mod]
  · rw [pow_mod_left, Nat.mul_pow, Nat.mul_mod, hm, sq_pow, h.st]
    decide +kernel

/-- At the end over is 1. -/
theorem Ton.last {a x over step : Nat} (h : Ton a 0 x over step) : x * x % R = a % R := by
  have h1 := h.ov
  rw [Nat.pow_zero, Nat.pow_one] at h1
  rw [h.sq, Nat.mul_mod, h1, Nat.mul_one, Nat.mod_mod]

/-- Two roots of one number modulo a prime, each at most half of it, are the same. -/
theorem Prime.root_unique {p x y : Nat} (hp : Prime p) (hx : x ≤ p / 2) (hy : y ≤ p / 2) (h : x * x % p = y * y % p) (hp3 : p % 2 = 1) : x = y := by
  have main : ∀ x y : Nat, x ≤ p / 2 → y ≤ p / 2 → x * x % p = y * y % p → x ≤ y → x = y := by
    intro x y hx hy h hxy
    obtain ⟨d, rfl⟩ : ∃ d, y = x + d := ⟨y - x, by omega⟩
    have hle : x * x ≤ (x + d) * (x + d) := Nat.mul_le_mul hxy hxy
    have e : (x + d) * (x + d) - x * x = d * (2 * x + d) := by
      have : (x + d) * (x + d) = x * x + d * (2 * x + d) := by grind
      omega
    have hdv : p ∣ d * (2 * x + d) := by
      rw [← e]
      exact Nat.dvd_of_mod_eq_zero (Nat.sub_mod_eq_zero_of_mod_eq h.symm)
    rcases hp.dvd_mul hdv with h1 | h1
    · rcases Nat.eq_zero_or_pos d with h0 | h0
      · omega
      · have := Nat.le_of_dvd h0 h1; have := hp.1; omega
    · rcases Nat.eq_zero_or_pos (2 * x + d) with h0 | h0
      · omega
      · have := Nat.le_of_dvd h0 h1; omega
  rcases Nat.le_total x y with c | c
  · exact main x y hx hy h c
  · exact (main y x hy hx h.symm c).symm

/-- The root modulo R that is at most half of it (0 where there is none): the first that serves. -/
def root (a : Nat) : Nat := ((List.range (R / 2 + 1)).find? fun X => X * X % R == a % R).getD 0

theorem root_eq {a X : Nat} (hX : X ≤ R / 2) (h : X * X % R = a % R) : root a = X := by
  unfold root
  cases hf : (List.range (R / 2 + 1)).find? fun X => X * X % R == a % R with
  | none =>
    have := List.find?_eq_none.mp hf X (List.mem_range.mpr (by omega))
    simp [h] at this
  | some Y =>
    have h1 := List.find?_some hf
    have h2 := List.mem_range.mp (List.mem_of_find?_eq_some hf)
    simp only [beq_iff_eq] at h1
    show Y = X
    exact primeR.root_unique (by omega) hX (by rw [h1, h]) (by decide +kernel)

/-- The lesser of x and R - x. -/
theorem lesser {a x : Nat} (hx : x < R) (h : x * x % R = a % R) : root a = min x (R - x) := by
  have hR : R % 2 = 1 := by decide +kernel
  rcases Nat.le_total x (R - x) with c | c
  · rw [Nat.min_eq_left c]
    exact root_eq (by omega) h
  · rw [Nat.min_eq_right c]
    refine root_eq (by omega) ?_
    rw [← h]
    obtain ⟨y, hy⟩ : ∃ y, x + y = R := ⟨R - x, by omega⟩
    have e : R - x = y := by omega
    rw [e]
    have : y * y + R * (2 * x) = x * x + R * R := by rw [← hy]; grind
    have h1 : (y * y + R * (2 * x)) % R = (x * x + R * R) % R := by rw [this]
    rwa [Nat.add_mul_mod_self_left, Nat.add_mul_mod_self_left] at h1

theorem root_ok {a X : Nat} (hX : X ≤ R / 2) (h : X * X % R = a % R) : root a ≤ R / 2 ∧ root a * root a % R = a % R := by rw [root_eq hX h]; exact ⟨hX, h⟩

/-- Has a a root modulo R? (By Euler.) -/
def Sq (a : Nat) : Prop := a % R = 0 ∨ a ^ ((R - 1) / 2) % R = 1

theorem Ton.ends {a : Nat} : ∀ (k x o s : Nat), Ton a k x o s → x < R → ∃ x, x < R ∧ x * x % R = a % R
  | 0, x, _, _, h, hx => ⟨x, hx, h.last⟩
  | k + 1, x, o, s, h, hx => by
    by_cases c : o ^ 2 ^ k % R = 1
    · exact Ton.ends k _ _ _ (h.keep c) hx
    · exact Ton.ends k _ _ _ (h.turn c) (Nat.mod_lt _ (by have := R_two; omega))

theorem root_of_sq {a : Nat} (h : Sq a) : root a ≤ R / 2 ∧ root a * root a % R = a % R := by
  have hR := R_two
  rcases h with h | h
  · exact root_ok (X := 0) (by omega) (by rw [h, Nat.mul_zero, Nat.zero_mod])
  · obtain ⟨x, hx, e⟩ := Ton.ends _ _ _ _ (Ton.start rfl h) (Nat.mod_lt _ (by omega))
    rw [lesser hx e]
    have hodd : R % 2 = 1 := by decide +kernel
    have := lesser hx e
    rcases Nat.le_total x (R - x) with c | c
    · rw [Nat.min_eq_left c]; exact ⟨by omega, e⟩
    · rw [Nat.min_eq_right c]
      refine ⟨by omega, ?_⟩
      rw [← e]
      obtain ⟨y, hy⟩ : ∃ y, x + y = R := ⟨R - x, by omega⟩
      have e2 : R - x = y := by omega
      rw [e2]
      have : y * y + R * (2 * x) = x * x + R * R := by rw [← hy]; grind
      have h1 : (y * y + R * (2 * x)) % R = (x * x + R * R) % R := by rw [this]
      rwa [Nat.add_mul_mod_self_left, Nat.add_mul_mod_self_left] at h1
end Ob

namespace Ob
set_option linter.unusedVariables false
set_option linter.unusedSimpArgs false

/-- What X times X is, of a Y. -/
def gsqr (y : Fin RE) : Fin RE := (y * y - 1) * ginv (1 + 439 * (y * y))
theorem gsqr_den (y : Fin RE) : 1 + 439 * (y * y) ≠ 0 := fun e => by
  have hi := gi_sq
  have hd := d_nosq
  by_cases hy : y = 0
  · subst hy
    apply g1_ne
    generalize (439 : Fin RE) = d at e
    grobner
  · have hm := ginv_mul hy
    apply hd (gi * ginv y)
    generalize gi = i at *
    generalize ginv y = j at *
    generalize (439 : Fin RE) = d at *
    clear hd
    grobner
theorem on_sqr (x y : Fin RE) : onG (x, y) ↔ x * x = gsqr y := by
  have hm := ginv_mul (gsqr_den y)
  show y * y = 1 + x * x + 439 * (x * x * (y * y)) ↔ x * x = (y * y - 1) * ginv (1 + 439 * (y * y))
  generalize (439 : Fin RE) = d at *
  generalize ginv (1 + d * (y * y)) = j at *
  constructor
  · intro h; grobner
  · intro h; grobner
theorem G_roots {x z : Fin RE} (h : x * x = z * z) : x = z ∨ x = 0 - z := by
  have e : (x - z) * (x + z) = 0 := by grobner
  rcases Gmul_zero e with e | e
  · exact Or.inl (by grobner)
  · exact Or.inr (by grobner)
theorem Gneg_val {x : Fin RE} (h : x ≠ 0) : (0 - x).val = RE - x.val := by
  have h0 : x.val ≠ 0 := fun e => h (Fin.ext e)
  have h1 := x.isLt
  rw [Fin.val_sub]
  show (RE - x.val + 0) % RE = _
  rw [Nat.mod_eq_of_lt (by omega)]; omega
theorem Gneg_odd {x : Fin RE} (h : x ≠ 0) : (0 - x).val % 2 = 1 - x.val % 2 := by
  rw [Gneg_val h]
  have h1 := x.isLt
  show (288230376287764481 - x.val) % 2 = 1 - x.val % 2
  have : x.val < 288230376287764481 := h1
  omega
/-- One Y, and odd or even: one point. -/
theorem on_one {x z y : Fin RE} (hx : onG (x, y)) (hz : onG (z, y)) (h : x.val % 2 = z.val % 2) : x = z := by
  have e := ((on_sqr x y).mp hx).trans ((on_sqr z y).mp hz).symm
  rcases G_roots e with e | e
  · exact e
  · by_cases hz0 : z = 0
    · subst hz0; rw [e]; decide +kernel
    · rw [e, Gneg_odd hz0] at h; omega
theorem Sq_of {x s : Fin RE} (h : x * x = s) : Sq s.val := by
  by_cases hs : s = 0
  · subst hs; exact Or.inl rfl
  · refine Or.inr ?_
    have hx : x ≠ 0 := fun e => by subst e; apply hs; rw [← h]; grobner
    clear hs
    have hK : (R - 1) / 2 + (R - 1) / 2 = RE - 1 := by decide +kernel
    generalize (R - 1) / 2 = K at hK
    have e : gpow s K = 1 := by
      rw [← h, gpow_sq, ← gpow_add, hK]; exact fermatG x hx
    have e2 := gpow_val s K
    rw [e] at e2
    exact e2.symm
theorem Sq_root {s : Fin RE} (h : Sq s.val) : ∃ x : Fin RE, x * x = s := by
  have hr := (root_of_sq h).2
  refine ⟨toG (root s.val), Fin.ext ?_⟩
  rw [Fin.val_mul, toG_val, ← Nat.mul_mod]
  exact hr.trans (Nat.mod_eq_of_lt s.isLt)
theorem Sq_on (y : Fin RE) : Sq (gsqr y).val ↔ ∃ x, onG (x, y) :=
  ⟨fun h => by obtain ⟨x, hx⟩ := Sq_root h; exact ⟨x, (on_sqr x y).mpr hx⟩, fun ⟨x, hx⟩ => Sq_of ((on_sqr x y).mp hx)⟩
theorem on_opp {x y : Fin RE} (h : onG (x, y)) : onG (0 - x, y) := onG_neg h
/-- Of a Y that a point has there is the even one, and where X isn't 0 the odd one. -/
theorem on_parity {y : Fin RE} (h : ∃ x, onG (x, y)) (o : Nat) (ho : o < 2) (h0 : gsqr y ≠ 0 ∨ o = 0) : ∃ x, onG (x, y) ∧ x.val % 2 = o := by
  obtain ⟨x, hx⟩ := h
  by_cases hp : x.val % 2 = o
  · exact ⟨x, hx, hp⟩
  · have hx0 : x ≠ 0 := fun e => by
      subst e
      rcases h0 with h0 | h0
      · apply h0; rw [← (on_sqr 0 y).mp hx]; grobner
      · subst h0; exact hp rfl
    exact ⟨0 - x, on_opp hx, by rw [Gneg_odd hx0]; omega⟩
theorem no_odd {y x : Fin RE} (h : gsqr y = 0) (hx : onG (x, y)) : x = 0 := by
  have e := (on_sqr x y).mp hx
  rw [h] at e
  rcases Gmul_zero e with e | e <;> exact e
theorem gmul_bit {u : Ep} (hu : onG u) (n k : Nat) : gmul u (n / 2 ^ k) = gadd (gadd (gmul u (n / 2 ^ (k + 1))) (gmul u (n / 2 ^ (k + 1)))) (gmul u (n / 2 ^ k % 2)) := by
  have e : n / 2 ^ k = n / 2 ^ (k + 1) + n / 2 ^ (k + 1) + n / 2 ^ k % 2 := by
    rw [Nat.pow_succ, ← Nat.div_div_eq_div_mul]; omega
  rw [← gmul_add hu, ← gmul_add hu, ← e]
end Ob

namespace Ob
set_option linter.unusedVariables false
set_option linter.unusedSimpArgs false

/-- The number that a point's bytes tell. -/
def edN (u : Ep) : Nat := if u.1.val % 2 = 1 then u.2.val + 9223372036854775808 else u.2.val
theorem RE_small (x : Fin RE) : x.val < 288230376287764481 := x.isLt
theorem edN_lt (u : Ep) : edN u < 18446744073709551616 := by
  have := RE_small u.2
  unfold edN; split <;> omega
def lowY (n : Nat) : Nat := n % 9223372036854775808
def topO (n : Nat) : Nat := n / 9223372036854775808
theorem edN_low (u : Ep) : lowY (edN u) = u.2.val := by
  have := RE_small u.2
  unfold edN lowY; split <;> omega
theorem edN_top (u : Ep) : topO (edN u) = u.1.val % 2 := by
  have := RE_small u.2
  unfold edN topO; split <;> omega
theorem edN_of (u : Ep) (n : Nat) (h1 : u.2.val = lowY n) (h2 : u.1.val % 2 = topO n) (hn : n < 18446744073709551616) : edN u = n := by
  have := RE_small u.2
  unfold edN lowY topO at *
  split <;> omega
/-- The X that isn't above R / 2, of a number as Y. -/
def rtX (y : Nat) : Nat := root (gsqr (toG y)).val
theorem rtX_le {y : Nat} (h : Sq (gsqr (toG y)).val) : rtX y ≤ 144115188143882240 := (root_of_sq h).1
theorem rtX_lt {y : Nat} (h : Sq (gsqr (toG y)).val) : rtX y < RE := Nat.lt_of_le_of_lt (rtX_le h) (by decide)
theorem rtX_on {y : Nat} (h : Sq (gsqr (toG y)).val) : onG (toG (rtX y), toG y) := by
  refine (on_sqr _ _).mpr (Fin.ext ?_)
  rw [Fin.val_mul, toG_val, ← Nat.mul_mod]
  exact (root_of_sq h).2.trans (Nat.mod_eq_of_lt (gsqr (toG y)).isLt)
theorem rtX_zero {y : Nat} (h : Sq (gsqr (toG y)).val) : rtX y = 0 ↔ gsqr (toG y) = 0 := by
  have hv : (toG (rtX y)).val = rtX y := Nat.mod_eq_of_lt (rtX_lt h)
  constructor
  · intro e
    have := (on_sqr _ _).mp (rtX_on h)
    rw [e] at this
    rw [← this, show toG 0 = 0 from rfl]; grobner
  · intro e
    have := no_odd e (rtX_on h)
    rw [← hv, this]; rfl
/-- The X that is told. -/
def rdX (n : Nat) : Nat := if rtX (lowY n) % 2 = topO n then rtX (lowY n) else 288230376287764481 - rtX (lowY n)
/-- There is a point of which that number tells. -/
def Has (n : Nat) : Prop := lowY n < 288230376287764481 ∧ Sq (gsqr (toG (lowY n))).val ∧ (gsqr (toG (lowY n)) ≠ 0 ∨ topO n = 0)
theorem rd_yes {n : Nat} (hn : n < 18446744073709551616) (h : Has n) : ∃ u : Ep, onG u ∧ u.2.val = lowY n ∧ u.1.val % 2 = topO n ∧ u.1.val = rdX n := by
  obtain ⟨hy, hs, h0⟩ := h
  have ho : topO n < 2 := by unfold topO; omega
  have hyv : (toG (lowY n)).val = lowY n := Nat.mod_eq_of_lt hy
  have hv : (toG (rtX (lowY n))).val = rtX (lowY n) := Nat.mod_eq_of_lt (rtX_lt hs)
  have hon := rtX_on hs
  by_cases hp : rtX (lowY n) % 2 = topO n
  · refine ⟨_, hon, hyv, ?_, ?_⟩
    · show (toG (rtX (lowY n))).val % 2 = _
      rw [hv]; exact hp
    · show (toG (rtX (lowY n))).val = _
      rw [hv, rdX, if_pos hp]
  · have hx : toG (rtX (lowY n)) ≠ 0 := fun e => by
      have e0 : rtX (lowY n) = 0 := by rw [← hv, e]; rfl
      have := (rtX_zero hs).mp e0
      rcases h0 with h0 | h0
      · exact h0 this
      · rw [e0] at hp; omega
    refine ⟨_, on_opp hon, hyv, ?_, ?_⟩
    · show (0 - toG (rtX (lowY n))).val % 2 = _
      rw [Gneg_odd hx, hv]; omega
    · show (0 - toG (rtX (lowY n))).val = _
      rw [Gneg_val hx, hv, rdX, if_neg hp]
theorem rd_no {n : Nat} (hn : n < 18446744073709551616) (h : ¬ Has n) (hs : Sq (gsqr (toG (lowY n))).val) : isG (rdX n) (lowY n) = false := by
  cases hc : isG (rdX n) (lowY n) with
  | false => rfl
  | true =>
    exfalso
    apply h
    simp only [isG, Bool.and_eq_true, decide_eq_true_eq] at hc
    obtain ⟨⟨h1, h2⟩, _⟩ := hc
    refine ⟨h2, hs, ?_⟩
    by_cases h0 : gsqr (toG (lowY n)) = 0
    · refine Or.inr ?_
      have e0 := (rtX_zero hs).mpr h0
      rw [rdX, e0] at h1
      split at h1
      · omega
      · exact absurd h1 (by decide)
    · exact Or.inl h0
theorem rdX_lt {n : Nat} (hs : Sq (gsqr (toG (lowY n))).val) : rdX n < 18446744073709551616 := by
  have := rtX_le hs
  unfold rdX; split <;> omega
/-- A point's number tells it. -/
theorem has_edN {u : Ep} (hu : onG u) : Has (edN u) ∧ rdX (edN u) = u.1.val := by
  have hl := edN_low u
  have ht := edN_top u
  have hg : toG (lowY (edN u)) = u.2 := by rw [hl, toG_of_val]
  have hs : Sq (gsqr u.2).val := (Sq_on u.2).mpr ⟨u.1, hu⟩
  have hH : Has (edN u) := by
    refine ⟨by rw [hl]; exact RE_small _, by rw [hg]; exact hs, ?_⟩
    rw [hg, ht]
    by_cases h0 : gsqr u.2 = 0
    · refine Or.inr ?_
      rw [no_odd h0 hu]; rfl
    · exact Or.inl h0
  refine ⟨hH, ?_⟩
  obtain ⟨v, hv, h1, h2, h3⟩ := rd_yes (edN_lt u) hH
  rw [← h3]
  have e2 : v.2 = u.2 := Fin.ext (by rw [h1, hl])
  have hv' : onG (v.1, u.2) := by rw [← e2]; exact hv
  rw [on_one hv' hu (by rw [h2, ht])]
/-- The point of a Y whose X isn't above R / 2. -/
def lowP (y : Nat) : Ep := (toG (rtX y), toG y)
/-- It is there, and four times it isn't 0. -/
def Good (y : Nat) : Prop := Sq (gsqr (toG y)).val ∧ gsqr (toG y) ≠ 0 ∧ toG y ≠ 0
theorem good_four {y : Nat} (h : Sq (gsqr (toG y)).val) : gmul (lowP y) 4 ≠ gzero ↔ Good y := by
  show ¬ gmul (toG (rtX y), toG y) 4 = gzero ↔ _
  rw [four_zero (rtX_on h)]
  have hv : (toG (rtX y)).val = rtX y := Nat.mod_eq_of_lt (rtX_lt h)
  have hz : toG (rtX y) = 0 ↔ gsqr (toG y) = 0 := by
    rw [← rtX_zero h]
    constructor
    · intro e; rw [← hv, e]; rfl
    · intro e; rw [e]; rfl
  show ¬ (toG (rtX y) = 0 ∨ toG y = 0) ↔ _
  rw [hz]
  unfold Good
  constructor
  · intro hh; exact ⟨h, fun e => hh (Or.inl e), fun e => hh (Or.inr e)⟩
  · rintro ⟨_, h1, h2⟩ (e | e)
    · exact h1 e
    · exact h2 e
end Ob
namespace Ob
/-- The same, reckoned. -/
def goodB (y : Nat) : Bool := (decide ((gsqr (toG y)).val % R = 0) || decide ((gsqr (toG y)).val ^ ((R - 1) / 2) % R = 1)) && (decide (gsqr (toG y) ≠ 0) && decide (toG y ≠ 0))
theorem goodB_iff (y : Nat) : goodB y = true ↔ Good y := by
  unfold goodB Good Sq
  simp only [Bool.and_eq_true, Bool.or_eq_true, decide_eq_true_eq]
theorem good_of {y : Nat} (h : goodB y = true) : Good y := (goodB_iff y).mp h
theorem good_not {y : Nat} (h : goodB y = false) : ¬ Good y := fun g => by rw [(goodB_iff y).mpr g] at h; cases h
/-- The first of m numbers, from the k-th on, of which there is a found point. -/
def firstG (Y : Nat → Nat) : Nat → Nat → Option Nat
  | 0, _ => none
  | m + 1, k => if goodB (Y k) then some k else firstG Y m (k + 1)
theorem firstG_yes (Y : Nat → Nat) (m k : Nat) (hm : m = (m - 1) + 1) (h : goodB (Y k) = true) : firstG Y m k = some k := by
  rw [hm, firstG, if_pos h]
theorem firstG_no (Y : Nat → Nat) (m k : Nat) (hm : m = (m - 1) + 1) (h : goodB (Y k) = false) : firstG Y m k = firstG Y (m - 1) (k + 1) := by
  rw [hm, firstG, if_neg (by rw [h]; decide)]
  rfl
theorem firstG_good (Y : Nat → Nat) : ∀ m k j, firstG Y m k = some j → goodB (Y j) = true
  | 0, _, _, h => by cases h
  | m + 1, k, j, h => by
    rw [firstG] at h
    split at h
    · rename_i hg; cases h; exact hg
    · exact firstG_good Y m (k + 1) j h
theorem firstG_lt (Y : Nat → Nat) : ∀ m k j, firstG Y m k = some j → j < k + m
  | 0, _, _, h => by cases h
  | m + 1, k, j, h => by
    rw [firstG] at h
    split at h
    · cases h; omega
    · have := firstG_lt Y m (k + 1) j h; omega
theorem firstG_congr {Y Z : Nat → Nat} (h : ∀ k, Y k = Z k) : ∀ m k, firstG Y m k = firstG Z m k
  | 0, _ => rfl
  | m + 1, k => by rw [firstG, firstG, h, firstG_congr h m (k + 1)]
end Ob
