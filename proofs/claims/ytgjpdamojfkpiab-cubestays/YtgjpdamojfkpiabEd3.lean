/-
  The Edwards curve's points are a group: sums are points, and go in any order.
-/
import Derived.Test.YtgjpdamojfkpiabEd2
namespace Ob
set_option linter.unusedVariables false
set_option linter.unusedSimpArgs false

theorem quot_on {t1 t2 a b n1 n2 d : Fin RE} (h1 : t1 * a = n1) (h2 : t2 * b = n2) (ha : a ≠ 0) (hb : b ≠ 0)
    (h : n2 * n2 * (a * a) = (a * b) * (a * b) + n1 * n1 * (b * b) + d * (n1 * n1 * (n2 * n2))) : t2 * t2 = 1 + t1 * t1 + d * (t1 * t1 * (t2 * t2)) := by
  subst h1 h2
  refine Gcancel ha (Gcancel ha (Gcancel hb (Gcancel hb ?_)))
  clear ha hb
  grobner
theorem onG_add {u v : Ep} (hu : onG u) (hv : onG v) : onG (gadd u v) := by
  have h := Gsum_add hu hv
  have e := ge_on hu hv
  exact quot_on h.1 h.2 (gden1 hu hv) (gden2 hu hv) e
theorem onG_zero : onG gzero := by show (1 : Fin RE) * 1 = 1 + 0 * 0 + 439 * (0 * 0 * (1 * 1)); decide +kernel
theorem onG_neg {u : Ep} (hu : onG u) : onG (gneg u) := by
  unfold onG gneg at *
  dsimp only at *
  generalize u.1 = x at *
  generalize u.2 = y at *
  generalize (439 : Fin RE) = d at *
  grobner
theorem gk_comm (u v : Ep) : gk u v = gk v u := by
  unfold gk
  generalize u.1 = a; generalize u.2 = b; generalize v.1 = c; generalize v.2 = e; generalize (439 : Fin RE) = d
  grobner
theorem gadd_comm (u v : Ep) : gadd u v = gadd v u := by
  unfold gadd
  rw [gk_comm u v]
  generalize gk v u = k
  refine Prod.ext ?_ ?_
  · show (u.1 * v.2 + u.2 * v.1) * ginv (1 + k) = (v.1 * u.2 + v.2 * u.1) * ginv (1 + k)
    generalize ginv (1 + k) = i; generalize u.1 = a; generalize u.2 = b; generalize v.1 = c; generalize v.2 = e
    grobner
  · show (u.2 * v.2 + u.1 * v.1) * ginv (1 - k) = (v.2 * u.2 + v.1 * u.1) * ginv (1 - k)
    generalize ginv (1 - k) = i; generalize u.1 = a; generalize u.2 = b; generalize v.1 = c; generalize v.2 = e
    grobner
theorem gadd_zero {u : Ep} (hu : onG u) : gadd u gzero = u := by
  refine Gsum_unique hu onG_zero (Gsum_add hu onG_zero) ?_
  unfold Gsum gk gzero
  dsimp only
  generalize u.1 = a; generalize u.2 = b; generalize (439 : Fin RE) = d
  constructor <;> grobner
theorem zero_gadd {u : Ep} (hu : onG u) : gadd gzero u = u := by rw [gadd_comm]; exact gadd_zero hu
theorem gadd_neg {u : Ep} (hu : onG u) : gadd u (gneg u) = gzero := by
  refine Gsum_unique hu (onG_neg hu) (Gsum_add hu (onG_neg hu)) ?_
  unfold onG at hu
  unfold Gsum gk gzero gneg
  dsimp only
  generalize u.1 = a at *; generalize u.2 = b at *; generalize (439 : Fin RE) = d at *
  constructor
  · clear hu; grobner
  · grobner
/-- One coordinate of a sum of a sum. -/
theorem gnest1 {p1 p2 k n1 n2 w1 w2 t d : Fin RE} (e1 : p1 * (1 + k) = n1) (e2 : p2 * (1 - k) = n2) (h : t * (1 + d * (p1 * w1 * (p2 * w2))) = p1 * w2 + p2 * w1) :
    t * ((1 + k) * (1 - k) + d * (n1 * n2 * w1 * w2)) = n1 * (1 - k) * w2 + n2 * (1 + k) * w1 := by
  subst e1 e2
  have : t * ((1 + k) * (1 - k) + d * (p1 * (1 + k) * (p2 * (1 - k)) * w1 * w2)) = t * (1 + d * (p1 * w1 * (p2 * w2))) * ((1 + k) * (1 - k)) := by clear h; grobner
  rw [this, h]; clear h this; grobner
theorem gnest2 {p1 p2 k n1 n2 w1 w2 t d : Fin RE} (e1 : p1 * (1 + k) = n1) (e2 : p2 * (1 - k) = n2) (h : t * (1 - d * (p1 * w1 * (p2 * w2))) = p2 * w2 + p1 * w1) :
    t * ((1 + k) * (1 - k) - d * (n1 * n2 * w1 * w2)) = n2 * (1 + k) * w2 + n1 * (1 - k) * w1 := by
  subst e1 e2
  have : t * ((1 + k) * (1 - k) - d * (p1 * (1 + k) * (p2 * (1 - k)) * w1 * w2)) = t * (1 - d * (p1 * w1 * (p2 * w2))) * ((1 + k) * (1 - k)) := by clear h; grobner
  rw [this, h]; clear h this; grobner
theorem gnestne1 {p1 p2 k n1 n2 w1 w2 d : Fin RE} (e1 : p1 * (1 + k) = n1) (e2 : p2 * (1 - k) = n2) (h1 : 1 + k ≠ 0) (h2 : 1 - k ≠ 0) (h : 1 + d * (p1 * w1 * (p2 * w2)) ≠ 0) :
    (1 + k) * (1 - k) + d * (n1 * n2 * w1 * w2) ≠ 0 := fun e => by
  subst e1 e2
  have : (1 + k) * ((1 - k) * (1 + d * (p1 * w1 * (p2 * w2)))) = 0 := by rw [← e]; clear e; grobner
  rcases Gmul_zero this with a | a
  · exact h1 a
  rcases Gmul_zero a with a | a
  · exact h2 a
  · exact h a
theorem gnestne2 {p1 p2 k n1 n2 w1 w2 d : Fin RE} (e1 : p1 * (1 + k) = n1) (e2 : p2 * (1 - k) = n2) (h1 : 1 + k ≠ 0) (h2 : 1 - k ≠ 0) (h : 1 - d * (p1 * w1 * (p2 * w2)) ≠ 0) :
    (1 + k) * (1 - k) - d * (n1 * n2 * w1 * w2) ≠ 0 := fun e => by
  subst e1 e2
  have : (1 + k) * ((1 - k) * (1 - d * (p1 * w1 * (p2 * w2)))) = 0 := by rw [← e]; clear e; grobner
  rcases Gmul_zero this with a | a
  · exact h1 a
  rcases Gmul_zero a with a | a
  · exact h2 a
  · exact h a
theorem gcross {t t' D D' N N' : Fin RE} (h : t * D = N) (h' : t' * D' = N') (e : N * D' = N' * D) (hD : D ≠ 0) (hD' : D' ≠ 0) : t = t' := by
  refine Gcancel hD (Gcancel hD' ?_)
  subst h h'
  clear hD hD'
  grobner
theorem gadd_assoc {u v w : Ep} (hu : onG u) (hv : onG v) (hw : onG w) : gadd (gadd u v) w = gadd u (gadd v w) := by
  have hp := onG_add hu hv
  have hq := onG_add hv hw
  have h1 := Gsum_add hu hv
  have h2 := Gsum_add hp hw
  have h3 := Gsum_add hv hw
  have h4 := Gsum_add hq hu
  rw [gadd_comm u (gadd v w)]
  have dp1 := gden1 hp hw; have dp2 := gden2 hp hw; have dq1 := gden1 hq hu; have dq2 := gden2 hq hu
  have du1 := gden1 hu hv; have du2 := gden2 hu hv; have dv1 := gden1 hv hw; have dv2 := gden2 hv hw
  have ex := ge_x hu hv hw
  have ey := ge_y hu hv hw
  generalize gadd (gadd u v) w = t at *
  generalize gadd (gadd v w) u = t' at *
  generalize gadd u v = p at *
  generalize gadd v w = q at *
  obtain ⟨x1, y1⟩ := u; obtain ⟨x2, y2⟩ := v; obtain ⟨x3, y3⟩ := w
  obtain ⟨p1, p2⟩ := p; obtain ⟨q1, q2⟩ := q; obtain ⟨t1, t2⟩ := t; obtain ⟨s1, s2⟩ := t'
  dsimp only [Gsum, onG, gk] at *
  generalize (439 : Fin RE) = d at *
  refine Prod.ext ?_ ?_
  · refine gcross (gnest1 h1.1 h1.2 h2.1) (gnest1 h3.1 h3.2 h4.1) ?_ (gnestne1 h1.1 h1.2 du1 du2 dp1) (gnestne1 h3.1 h3.2 dv1 dv2 dq1)
    clear h1 h2 h3 h4 dp1 dp2 dq1 dq2 du1 du2 dv1 dv2 hu hv hw hp hq ey
    refine (Eq.trans ?_ ex).trans ?_ <;> (clear ex; grobner)
  · refine gcross (gnest2 h1.1 h1.2 h2.2) (gnest2 h3.1 h3.2 h4.2) ?_ (gnestne2 h1.1 h1.2 du1 du2 dp2) (gnestne2 h3.1 h3.2 dv1 dv2 dq2)
    clear h1 h2 h3 h4 dp1 dp2 dq1 dq2 du1 du2 dv1 dv2 hu hv hw hp hq ex
    refine (Eq.trans ?_ ey).trans ?_ <;> (clear ey; grobner)
end Ob
