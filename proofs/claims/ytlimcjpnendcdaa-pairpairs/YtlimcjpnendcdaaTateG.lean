/-
  The pairing of the first point with itself isn't 1: the lines on the way to R times it, reckoned.
-/
import Derived.Test.YtlimcjpnendcdaaTate
namespace Ob
set_option linter.unusedVariables false
set_option linter.unusedSimpArgs false
attribute [local irreducible] cmul

/-- Doublings (false) and additions of g (true), with the slopes told ahead. -/
def way (g q : Fin P × Fin P) : List (Bool × Fin P) → Nat → Fin P × Fin P → EE → Option (Nat × (Fin P × Fin P) × EE)
  | [], n, t, f => some (n, t, f)
  | (false, l) :: r, n, t, f => if t.2 + t.2 ≠ 0 ∧ l * (t.2 + t.2) = 3 * (t.1 * t.1) + 1 then way g q r (2 * n) (lin l t.1 t.2 t.1) (emul (emul f f) (l * (q.1 + t.1) - t.2, q.2)) else none
  | (true, l) :: r, n, t, f => if t.1 ≠ g.1 ∧ l * (t.1 - g.1) = t.2 - g.2 then way g q r (n + 1) (lin l t.1 t.2 g.1) (emul f (l * (q.1 + t.1) - t.2, q.2)) else none

theorem way_sound {g q : Fin P × Fin P} (hg : onC (some g)) (hq : inR (some q)) : ∀ (s : List (Bool × Fin P)) (n : Nat) (t : Fin P × Fin P) (f : EE) (n' : Nat) (t' : Fin P × Fin P) (f' : EE),
    cmul (some g) n = some t → mill (some g) (some q) n = tau f → way g q s n t f = some (n', t', f') → cmul (some g) n' = some t' ∧ mill (some g) (some q) n' = tau f'
  | [], n, t, f, n', t', f', h1, h2, h => by
    cases h
    exact ⟨h1, h2⟩
  | (false, l) :: r, n, t, f, n', t', f', h1, h2, h => by
    have ht : onC (some t) := by rw [← h1]; exact onC_mul hg n
    unfold way at h
    split at h
    · rename_i c
      have hn : ¬(t.1 = t.1 ∧ t.2 + t.2 = 0) := fun e => c.1 e.2
      have hs : slope t.1 t.2 t.1 t.2 = l := by
        refine slope_unique ht ht hn ?_ ?_
        · clear h; grobner
        · rw [c.2]; clear h; grobner
      have e : cadd (some t) (some t) = some (lin l t.1 t.2 t.1) := by rw [← hs]; exact if_neg hn
      refine way_sound hg hq r _ _ _ n' t' f' ?_ ?_ h
      · rw [Nat.two_mul, cmul_add hg, h1, e]
      · rw [mill_two hg hq, h1, h2, tau_mul, tau_mul]
        unfold lam
        rw [lval_line hn, hs]
    · cases h
  | (true, l) :: r, n, t, f, n', t', f', h1, h2, h => by
    have ht : onC (some t) := by rw [← h1]; exact onC_mul hg n
    unfold way at h
    split at h
    · rename_i c
      have hn : ¬(t.1 = g.1 ∧ t.2 + g.2 = 0) := fun e => c.1 e.1
      have hd : t.1 - g.1 ≠ 0 := fun e => c.1 (by clear h; grobner)
      have hs : slope t.1 t.2 g.1 g.2 = l := by
        obtain ⟨L, _⟩ := slope_spec ht hg hn
        exact Fcancel hd (L.symm.trans c.2.symm)
      have e : cadd (some t) (some g) = some (lin l t.1 t.2 g.1) := by rw [← hs]; exact if_neg hn
      refine way_sound hg hq r _ _ _ n' t' f' ?_ ?_ h
      · rw [cmul_succ, h1, e]
      · show emul (mill (some g) (some q) n) (lam (cmul (some g) n) (some g) (some q)) = _
        rw [h1, h2, tau_mul]
        unfold lam
        rw [lval_line hn, hs]
    · cases h

def genG : Fin P × Fin P := (247390119040843104, 830327839767444578)
def wayG : List (Bool × Fin P) := [(false, 771037221575761924), (false, 944539077197752815), (false, 50610778559784455), (false, 883477586044794823), (false, 166732170380815502), (false, 57564444944943220), (false, 120356848501197846), (false, 772671612544534566), (false, 1088669377710595874), (false, 867866821929383352), (false, 1032717939451330879), (false, 1077120674616784209), (false, 549593202933016530), (false, 253072635767665309), (false, 171891115627613367), (false, 872176488952158053), (false, 680838845464763462), (false, 684413760787775138), (false, 295197593584959058), (false, 955584665724326882), (false, 1094145129575327842), (false, 176977832335847037), (false, 622412277701621802), (false, 782439752182645334), (false, 617037160004777299), (false, 260321584172593037), (false, 544181522542834386), (false, 292515614622923050), (false, 690991896160999475), (false, 926439074693521419), (false, 673215048842054240), (true, 404442243383641524), (false, 937129320574652910), (false, 1017591379826954949), (false, 1103838113266919775), (false, 715401428214738856), (false, 526102285039896589), (false, 159538247500915546), (false, 1133564014509556877), (true, 456363824078848917), (false, 687749021131923780), (true, 266138994180473769), (false, 1134847866570316385), (true, 981846027547238452), (false, 376869371021157660), (false, 947876578638056941), (false, 311203755325884234), (false, 872529208328090623), (false, 218722062940721403), (false, 474405596845738823), (false, 964383301409436009), (false, 307322271192066003), (false, 911504328087842595), (false, 239878321927657725), (false, 648762191686307442), (false, 176359854548694341), (false, 420344796204622141), (false, 522041850152409146), (false, 348838519901936668), (false, 157036329232295020), (false, 240066878937673533), (false, 162180205137598121)]
theorem wayG_runs : way genG genG wayG 1 genG one = some (288230376287764480, (247390119040843104, 322593665383613345), (725933330166919064, 862570332431477845)) := by decide +kernel
theorem tate_gen : tate genP genP = tau (725933330166919064, 862570332431477845) := by
  have hg : onC (some genG) := onC_gen
  have hq : inR (some genG) := inR_gen
  obtain ⟨h1, h2⟩ := way_sound hg hq wayG 1 genG one _ _ _ (cmul_one _) (by rw [mill_one, tau_one]) wayG_runs
  have e : R0 = 288230376287764480 + 1 := rfl
  show mill (some genG) (some genG) R0 = _
  rw [e]
  show emul (mill (some genG) (some genG) 288230376287764480) (lam (cmul (some genG) 288230376287764480) (some genG) (some genG)) = _
  have hw : onC (some ((247390119040843104, 322593665383613345) : Fin P × Fin P)) := by rw [← h1]; exact onC_mul hg _
  rw [h2, h1, lam_wall hw hq.1 (okQ_of hq) (by decide +kernel), emul_one]
theorem tate_gen_ne : tate genP genP ≠ one := fun e => by
  rw [tate_gen] at e
  have h : emul (tau (725933330166919064, 862570332431477845)) (epow (725933330166919064, 862570332431477845) 4) = epow (cj (725933330166919064, 862570332431477845)) 4 := by
    unfold tau
    rw [← epow_emul, pow_pred]
  rw [e, one_emul] at h
  revert h
  decide +kernel
theorem tate_gen_nz : tate genP genP ≠ zeroE := mill_nz onC_gen inR_gen _
end Ob
