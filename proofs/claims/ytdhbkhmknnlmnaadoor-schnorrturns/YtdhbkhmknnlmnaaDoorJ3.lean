/-
  Joined texts: The Edwards curve: the first point is of order S; 4 S times any point is 0. The points that numbers of 64 bits tell: Y, and whether X is odd. Sums of multiples of points of order S: they add up. Signatures: their equation; two of one nonce tell the key. Bytes of words of 32 bits, the lowest first. Numbers out of bytes, the lowest first; a block's words. Regions that draw their order and end in a store into what they read: the condition on the world need not be met behind those last operations. Package blake, walked: rolling, half a mixing. Package blake's tables. Package blake, walked: what the first block is pressed into.
-/
import Derived.Test.YtdhbkhmknnlmnaaDoorJ2
import Derived.Test.YtdhbkhmknnlmnaaDoorJ1
import Derived.Deep.DeepCutAuto
import Derived.Deep.RegionHeld3

namespace Ob
set_option linter.unusedVariables false
set_option linter.unusedSimpArgs false

abbrev SE : Nat := 72057593894066549
theorem prime67 : Prime 67 := prime_of_trial 67 9 (by decide) (by decide) (by decide +kernel)
theorem prime317 : Prime 317 := prime_of_trial 317 18 (by decide) (by decide) (by decide +kernel)
theorem prime57251 : Prime 57251 := prime_of_trial 57251 240 (by decide) (by decide) (by decide +kernel)
theorem prime14815033 : Prime 14815033 := prime_of_trial 14815033 3850 (by decide +kernel) (by decide +kernel) (by decide +kernel)
theorem S_sub : SE - 1 = 2 ^ 2 * 67 * 317 * 57251 * 14815033 := by decide +kernel
theorem lucasS : Lucas SE 2 where
  two := by decide +kernel
  one := pow_of_powm (by decide +kernel) (by decide +kernel)
  ne := by
    intro q hq hd
    rw [S_sub] at hd
    have h : q = 2 ∨ q = 67 ∨ q = 317 ∨ q = 57251 ∨ q = 14815033 := by
      rcases hq.dvd_mul hd with hd | hd
      · rcases hq.dvd_mul hd with hd | hd
        · rcases hq.dvd_mul hd with hd | hd
          · rcases hq.dvd_mul hd with hd | hd
            · exact Or.inl (hq.eq_of_dvd prime2 (hq.dvd_pow hd))
            · exact Or.inr (Or.inl (hq.eq_of_dvd prime67 hd))
          · exact Or.inr (Or.inr (Or.inl (hq.eq_of_dvd prime317 hd)))
        · exact Or.inr (Or.inr (Or.inr (Or.inl (hq.eq_of_dvd prime57251 hd))))
      · exact Or.inr (Or.inr (Or.inr (Or.inr (hq.eq_of_dvd prime14815033 hd))))
    have ne : ∀ k, (SE - 1) / k < 2 ^ 64 → powm SE 64 2 ((SE - 1) / k) ≠ 1 → 2 ^ ((SE - 1) / k) % SE ≠ 1 := fun k h1 h2 h3 => h2 (by rw [powm_eq SE 64 2 _ h1]; exact h3)
    rcases h with h | h | h | h | h
    all_goals
      subst h
      exact ne _ (by decide +kernel) (by decide +kernel)
theorem primeS : Prime SE := lucasS.prime

/-! The first point, doubled and added -/
def gGen : Ep := (223588670687113535, 82055451961885530)
theorem onG_gen : onG gGen := by show (82055451961885530 : Fin RE) * 82055451961885530 = 1 + 223588670687113535 * 223588670687113535 + 439 * (223588670687113535 * 223588670687113535 * (82055451961885530 * 82055451961885530)); decide +kernel
/-- Is t the sum of two points? (To be reckoned.) -/
def isSum (u v t : Ep) : Bool := t.1 * (1 + gk u v) == u.1 * v.2 + u.2 * v.1 && t.2 * (1 - gk u v) == u.2 * v.2 + u.1 * v.1
theorem isSum_add {u v t : Ep} (hu : onG u) (hv : onG v) (h : isSum u v t = true) : gadd u v = t := by
  unfold isSum at h
  rw [Bool.and_eq_true, beq_iff_eq, beq_iff_eq] at h
  exact Gsum_unique hu hv (Gsum_add hu hv) h
/-- A walk from the highest bit on: each row the double and, where the bit is 1, the sum with the first point. -/
def chk : Ep → List (Ep × Option Ep) → Ep → Bool
  | p, [], e => p == e
  | p, (q, none) :: l, e => isSum p p q && chk q l e
  | p, (q, some r) :: l, e => isSum p p q && isSum q gGen r && chk r l e
def chkN : Nat → List (Ep × Option Ep) → Nat
  | n, [] => n
  | n, (_, none) :: l => chkN (2 * n) l
  | n, (_, some _) :: l => chkN (2 * n + 1) l
theorem chk_mul : ∀ (l : List (Ep × Option Ep)) (p e : Ep) (n : Nat), gmul gGen n = p → chk p l e = true → gmul gGen (chkN n l) = e
  | [], p, e, n, hp, h => by
    unfold chk at h
    rw [beq_iff_eq] at h
    show gmul gGen n = e
    rw [hp, h]
  | (q, none) :: l, p, e, n, hp, h => by
    unfold chk at h
    rw [Bool.and_eq_true] at h
    have hon : onG p := hp ▸ onG_mul onG_gen n
    refine chk_mul l q e (2 * n) ?_ h.2
    rw [show 2 * n = n + n by omega, gmul_add onG_gen, hp]
    exact isSum_add hon hon h.1
  | (q, some r) :: l, p, e, n, hp, h => by
    unfold chk at h
    rw [Bool.and_eq_true, Bool.and_eq_true] at h
    have hon : onG p := hp ▸ onG_mul onG_gen n
    have e1 : gmul gGen (2 * n) = q := by
      rw [show 2 * n = n + n by omega, gmul_add onG_gen, hp]
      exact isSum_add hon hon h.1.1
    refine chk_mul l r e (2 * n + 1) ?_ h.2
    show gadd (gmul gGen (2 * n)) gGen = r
    have hq : onG q := e1 ▸ onG_mul onG_gen _
    rw [e1]
    exact isSum_add hq onG_gen h.1.2
def genRows : List (Ep × Option Ep) := [((215313104986860010, 182547805408397888), some (137793467179215122, 116235547721284618)), ((170317750279325719, 34670886643523254), some (252582691122900600, 251385050685503184)), ((247926893226952788, 168895567628064189), some (38124488070607937, 51197260139713676)), ((224485540305499475, 149489825702233031), some (39811595967729766, 213931579236519217)), ((123213619262012489, 47212235094765880), some (185206689396785223, 101319579035791570)), ((22042517405029254, 231186499481089032), some (250403946215291460, 97881651140171071)), ((176311690358610639, 77891349406648079), some (281460914275521354, 91990006374410385)), ((146080706815614832, 273483273053652661), some (110984812530433696, 204801505181883256)), ((141614863265849512, 136378954256596218), some (215754066012529874, 146872247862241090)), ((55080701174846009, 203334564428798386), some (118859373834926922, 179683276363721181)), ((161567363734772421, 250505779753349651), some (244896956301849774, 140710756062607636)), ((10391725747671709, 91612661375988500), some (52475736343698312, 237041389374839392)), ((2495212106157874, 251796509324935624), some (141410109812936162, 105236895077398087)), ((26767092443094691, 190388310876061676), some (19144510057788503, 212541364511528590)), ((235549395840195075, 283050734091825947), some (280014741002143856, 43444992624292836)), ((189217925228284548, 108897433649210086), some (242171169931519272, 100998049029756700)), ((179951434884853881, 37832380704445023), some (199821323881336996, 255059490964745996)), ((162852455508667164, 233264566906229983), some (45544186477517093, 151777488142700673)), ((187537097320717849, 119621405571752163), some (71561206993417521, 7280499292541923)), ((272756371256911801, 119214672176428243), some (111797133120816477, 166512544969220913)), ((236348718683982560, 92790003435887833), some (212987838471544997, 216061922420791731)), ((62363869421782793, 198653416360106449), some (22461095061867375, 147402757276516603)), ((72918566480997368, 73749633741772723), some (197295949494554537, 183585268537190235)), ((184577754754004649, 155756462375362852), some (169667098458170022, 68508860876689537)), ((178703837680662782, 20031625097404699), some (5827227359692351, 73047367685206042)), ((153745732264660709, 74189550035914868), some (21037802086533738, 15245259410897481)), ((59630042852466127, 148298061306787111), some (232848509575103009, 71776234500639568)), ((120358349233594524, 166691265164299890), none), ((39659936328836640, 183441566438203688), some (51238715347129739, 211533194032784038)), ((142643654498095447, 202278125514474615), some (73422190601644435, 198217522438261579)), ((172955864417556541, 212738914445881005), some (190998904101557839, 103198946546068656)), ((52782770539921610, 208943211345735028), none), ((249613780951124875, 239138827817555504), some (90562847333659085, 83765937641729505)), ((43893718665270902, 214747889618285129), some (27458231121853464, 280863975840921913)), ((190612471176197922, 244925925575431398), none), ((2828280512565373, 15749671383264935), some (14508079584920847, 100249537115564803)), ((227959080549803748, 55579466088836995), some (185415132377444258, 10650555306855857)), ((151742624243187719, 171610711199658122), none), ((124434845760531856, 239033492630421330), none), ((90365935557119977, 262760647737560290), some (237569889562835853, 184410742891296946)), ((102138912243981590, 153491116391842058), some (185090025423327152, 237771980720297492)), ((89490364885984354, 60859707086337439), none), ((152769945632781913, 142888533143164447), some (203439815992749, 71244376888951031)), ((41152493024319430, 206881888022184845), some (206286837005120746, 32416465798426787)), ((212873934810239030, 50119981849391368), none), ((114835514102307115, 284339108330849671), none), ((120575154038271208, 140013935041591056), some (38609121784821140, 241215127176351080)), ((205672532209498366, 179719883246236387), none), ((258630834119261086, 16217074414626969), some (201520709558167018, 218908679295776723)), ((264324037548118259, 163727798564629242), some (109759202150961139, 210231654217883637)), ((74215259634877108, 156412314412808121), some (78561132449989528, 267302516294211788)), ((143924424767807043, 163987702738026459), none), ((228572233067488096, 204381460596954541), some (50712362355641072, 2)), ((88234739724193906, 47203778514800504), none), ((64641705600650946, 82055451961885530), some (0, 1))]
set_option maxRecDepth 100000 in
theorem gen_rows : chk gGen genRows gzero = true := by decide +kernel
theorem gen_count : chkN 1 genRows = SE := by decide +kernel
theorem gen_S : gmul gGen SE = gzero := by
  have h := chk_mul genRows gGen gzero 1 (gmul_one onG_gen) gen_rows
  rwa [gen_count] at h
theorem gen_ne : gGen ≠ gzero := by decide +kernel

/-! Four points whose double is 0, or whose double's is -/
def gFour : Ep := (gi, 0)
theorem onG_four : onG gFour := by show (0 : Fin RE) * 0 = 1 + gi * gi + 439 * (gi * gi * (0 * 0)); decide +kernel
theorem four_two : gmul gFour 2 = (0, -1) := by
  rw [gmul_two onG_four]
  exact isSum_add onG_four onG_four (by decide +kernel)
theorem onG_minus : onG (0, -1) := by show (-1 : Fin RE) * -1 = 1 + 0 * 0 + 439 * (0 * 0 * (-1 * -1)); decide +kernel
theorem four_four : gmul gFour 4 = gzero := by
  rw [show (4 : Nat) = 2 * 2 from rfl, ← gmul_mul onG_four, four_two, gmul_two onG_minus]
  exact isSum_add onG_minus onG_minus (by decide +kernel)
theorem four_div {N : Nat} (h : gmul gFour N = gzero) : 4 ∣ N := by
  have hg := gmul_gcd onG_four 4 N four_four h
  have hd : Nat.gcd 4 N ∣ 4 := Nat.gcd_dvd_left 4 N
  have hn : Nat.gcd 4 N ∣ N := Nat.gcd_dvd_right 4 N
  have hle := Nat.le_of_dvd (by decide) hd
  have hpos := Nat.pos_of_dvd_of_pos hd (by decide)
  generalize Nat.gcd 4 N = k at *
  have hk : k = 1 ∨ k = 2 ∨ k = 3 ∨ k = 4 := by omega
  rcases hk with rfl | rfl | rfl | rfl
  · rw [gmul_one onG_four] at hg; exact absurd hg (by decide +kernel)
  · rw [four_two] at hg; exact absurd hg (by decide +kernel)
  · exact absurd hd (by decide)
  · exact hn
theorem gen_div {N : Nat} (h : gmul gGen N = gzero) : SE ∣ N := by
  have hg := gmul_gcd onG_gen SE N gen_S h
  rcases primeS.2 _ (Nat.gcd_dvd_left SE N) with h1 | h1
  · rw [h1, gmul_one onG_gen] at hg
    exact absurd hg gen_ne
  · rw [← h1]; exact Nat.gcd_dvd_right SE N
/-- 8 S times any point is 0. -/
theorem eight_S {u : Ep} (hu : onG u) : gmul u (8 * SE) = gzero := by
  obtain ⟨L, nd, on, hl⟩ := all_points
  have hN := fun {a : Ep} (ha : onG a) => gorder_of L nd on ha
  have hpos : 0 < L.length := List.length_pos_of_mem ((on gzero).1 onG_zero)
  obtain ⟨a, ha⟩ := four_div (hN onG_four)
  obtain ⟨b, hb⟩ := gen_div (hN onG_gen)
  have hm : ∃ m, L.length = 4 * SE * m := by
    have e : 4 * a = SE * b := by rw [← ha, ← hb]
    exact ⟨b / 4, by rw [hb]; have : (4 : Nat) ∣ b := by (have : SE * b % 4 = b % 4 := by (rw [Nat.mul_mod, show SE % 4 = 1 from by decide +kernel, Nat.one_mul, Nat.mod_mod])); omega
                     obtain ⟨c, rfl⟩ := this; rw [Nat.mul_div_cancel_left c (by decide), Nat.mul_comm 4 SE, Nat.mul_assoc]⟩
  obtain ⟨m, hm⟩ := hm
  have hu0 := hN hu
  rw [hm] at hu0 hl hpos
  have hm2 : m = 1 ∨ m = 2 := by
    have h1 : 4 * 72057593894066549 * m ≤ 2 * 288230376287764481 := hl
    have h2 : 0 < 4 * 72057593894066549 * m := hpos
    omega
  rcases hm2 with rfl | rfl
  · rw [show 8 * SE = 4 * SE * 1 * 2 by omega, ← gmul_mul hu, hu0, gmul_zero]
  · rw [show 8 * SE = 4 * SE * 2 by omega]; exact hu0
theorem two_zero {u : Ep} (hu : onG u) (h : gadd u u = gzero) : u = gzero ∨ u = (0, -1) := by
  have hs := Gsum_add hu hu
  rw [h] at hs
  have hn := gadd_neg hu
  have e : u = gneg u := gadd_left hu hu (onG_neg hu) (h.trans hn.symm)
  have hx : u.1 = 0 := by
    have e1 : u.1 = 0 - u.1 := congrArg Prod.fst e
    generalize u.1 = x at e1
    have : (2 : Fin RE) * x = 0 := by clear hu hs hn e h; grobner
    rcases Gmul_zero this with h | h
    · exact absurd h g2_ne
    · exact h
  obtain ⟨x, y⟩ := u
  dsimp only at hx
  subst hx
  have hy : y * y = 1 := by
    have h0 : y * y = 1 + 0 * 0 + 439 * (0 * 0 * (y * y)) := hu
    generalize (439 : Fin RE) = d at h0
    clear hs hn e h hu
    grobner
  have : (y - 1) * (y + 1) = 0 := by clear hs hn e h hu; grobner
  rcases Gmul_zero this with h | h
  · left; show (0, y) = ((0 : Fin RE), (1 : Fin RE)); rw [show y = 1 by clear hs hn e hu; grobner]
  · right; rw [show y = -1 by clear hs hn e hu; grobner]
/-- No point's double is one of the two whose double is (0, -1). -/
theorem half_none {u : Ep} (hu : onG u) : (gadd u u).2 ≠ 0 := fun h => by
  have hs := (Gsum_add hu hu).2
  rw [h] at hs
  have h1 : u.2 * u.2 = 1 + u.1 * u.1 + 439 * (u.1 * u.1 * (u.2 * u.2)) := hu
  have dn := d1_nosq (439 * (u.1 * u.1) - 1)
  apply dn
  clear dn h hu
  generalize u.1 = x at *
  generalize u.2 = y at *
  generalize gk u u = k at *
  have e440 : (440 : Fin RE) = 439 + 1 := by decide +kernel
  rw [e440]
  generalize (439 : Fin RE) = d at *
  clear e440
  grobner
theorem two_minus {u : Ep} (hu : onG u) (h : gadd u u = (0, -1)) : u.2 = 0 := by
  have hs := Gsum_add hu hu
  rw [h] at hs
  obtain ⟨s1, s2⟩ := hs
  have h1 : u.2 * u.2 = 1 + u.1 * u.1 + 439 * (u.1 * u.1 * (u.2 * u.2)) := hu
  have hk : gk u u = 439 * (u.1 * u.1 * (u.2 * u.2)) := rfl
  generalize gk u u = k at *
  dsimp only at s1 s2
  have hxy : u.1 * u.2 = 0 := by
    generalize u.1 = x at *; generalize u.2 = y at *
    have : (2 : Fin RE) * (x * y) = 0 := by clear s2 h1 hk hu h; grobner
    rcases Gmul_zero this with h | h
    · exact absurd h g2_ne
    · exact h
  rcases Gmul_zero hxy with hx | hy
  · exfalso
    generalize u.1 = x at *; generalize u.2 = y at *
    subst hx
    have : (2 : Fin RE) = 0 := by
      generalize (439 : Fin RE) = d at *
      clear s1 hxy hu h
      grobner
    exact g2_ne this
  · exact hy
/-- 4 S times any point is 0. -/
theorem four_S {u : Ep} (hu : onG u) : gmul u (4 * SE) = gzero := by
  have hq := onG_mul hu SE
  have e8 : gadd (gmul (gmul u SE) 4) (gmul (gmul u SE) 4) = gzero := by
    rw [← gmul_add hq, gmul_mul hu, show SE * (4 + 4) = 8 * SE by omega]
    exact eight_S hu
  rw [show 4 * SE = SE * 4 by omega, ← gmul_mul hu]
  rcases two_zero (onG_mul hq 4) e8 with h | h
  · exact h
  · exfalso
    have e2 : gadd (gmul (gmul u SE) 2) (gmul (gmul u SE) 2) = (0, -1) := by rw [← gmul_add hq]; exact h
    have hy := two_minus (onG_mul hq 2) e2
    rw [gmul_two hq] at hy
    exact half_none hq hy
/-- Four times a point is of order S. -/
theorem S_four {u : Ep} (hu : onG u) : gmul (gmul u 4) SE = gzero := by rw [gmul_mul hu]; exact four_S hu
/-- Four times a point is 0 just if a coordinate is. -/
theorem four_zero {u : Ep} (hu : onG u) : gmul u 4 = gzero ↔ u.1 = 0 ∨ u.2 = 0 := by
  have e4 : gmul u 4 = gadd (gadd u u) (gadd u u) := by rw [show (4 : Nat) = 2 * 2 from rfl, ← gmul_mul hu, gmul_two hu, gmul_two (onG_add hu hu)]
  rw [e4]
  constructor
  · intro h
    rcases two_zero (onG_add hu hu) h with h1 | h1
    · rcases two_zero hu h1 with h2 | h2
      · left; rw [h2]; rfl
      · left; rw [h2]
    · right; exact two_minus hu h1
  · intro h
    have h1 : u.2 * u.2 = 1 + u.1 * u.1 + 439 * (u.1 * u.1 * (u.2 * u.2)) := hu
    rcases h with h | h
    · have hd : gadd u u = gzero := by
        refine Gsum_unique hu hu (Gsum_add hu hu) ?_
        unfold Gsum gk gzero
        dsimp only
        generalize u.1 = x at *; generalize u.2 = y at *; generalize (439 : Fin RE) = d at *
        clear hu e4
        constructor <;> grobner
      rw [hd, gadd_zero onG_zero]
    · have hd : gadd u u = (0, -1) := by
        refine Gsum_unique hu hu (Gsum_add hu hu) ?_
        unfold Gsum gk
        dsimp only
        generalize u.1 = x at *; generalize u.2 = y at *; generalize (439 : Fin RE) = d at *
        clear hu e4
        constructor <;> grobner
      rw [hd]
      exact isSum_add onG_minus onG_minus (by decide +kernel)
end Ob

namespace Ob
set_option linter.unusedVariables false
set_option linter.unusedSimpArgs false

/-- The number that a point's bytes tell. -/
def edN (u : Ep) : Nat := if u.1.val % 2 = 1 then u.2.val + 9223372036854775808 else u.2.val
theorem RE_small (x : Fin RE) : x.val < 288230376287764481 := x.isLt
theorem edN_lt (u : Ep) : edN u < 18446744073709551616 := by
  have := RE_small u.2
  unfold edN; split <;> omega
def lowY (n : Nat) : Nat := n % 9223372036854775808
def topO (n : Nat) : Nat := n / 9223372036854775808
theorem edN_low (u : Ep) : lowY (edN u) = u.2.val := by
  have := RE_small u.2
  unfold edN lowY; split <;> omega
theorem edN_top (u : Ep) : topO (edN u) = u.1.val % 2 := by
  have := RE_small u.2
  unfold edN topO; split <;> omega
theorem edN_of (u : Ep) (n : Nat) (h1 : u.2.val = lowY n) (h2 : u.1.val % 2 = topO n) (hn : n < 18446744073709551616) : edN u = n := by
  have := RE_small u.2
  unfold edN lowY topO at *
  split <;> omega
/-- The X that isn't above R / 2, of a number as Y. -/
def rtX (y : Nat) : Nat := root (gsqr (toG y)).val
theorem rtX_le {y : Nat} (h : Sq (gsqr (toG y)).val) : rtX y ≤ 144115188143882240 := (root_of_sq h).1
theorem rtX_lt {y : Nat} (h : Sq (gsqr (toG y)).val) : rtX y < RE := Nat.lt_of_le_of_lt (rtX_le h) (by decide)
theorem rtX_on {y : Nat} (h : Sq (gsqr (toG y)).val) : onG (toG (rtX y), toG y) := by
  refine (on_sqr _ _).mpr (Fin.ext ?_)
  rw [Fin.val_mul, toG_val, ← Nat.mul_mod]
  exact (root_of_sq h).2.trans (Nat.mod_eq_of_lt (gsqr (toG y)).isLt)
theorem rtX_zero {y : Nat} (h : Sq (gsqr (toG y)).val) : rtX y = 0 ↔ gsqr (toG y) = 0 := by
  have hv : (toG (rtX y)).val = rtX y := Nat.mod_eq_of_lt (rtX_lt h)
  constructor
  · intro e
    have := (on_sqr _ _).mp (rtX_on h)
    rw [e] at this
    rw [← this, show toG 0 = 0 from rfl]; grobner
  · intro e
    have := no_odd e (rtX_on h)
    rw [← hv, this]; rfl
/-- The X that is told. -/
def rdX (n : Nat) : Nat := if rtX (lowY n) % 2 = topO n then rtX (lowY n) else 288230376287764481 - rtX (lowY n)
/-- There is a point of which that number tells. -/
def Has (n : Nat) : Prop := lowY n < 288230376287764481 ∧ Sq (gsqr (toG (lowY n))).val ∧ (gsqr (toG (lowY n)) ≠ 0 ∨ topO n = 0)
theorem rd_yes {n : Nat} (hn : n < 18446744073709551616) (h : Has n) : ∃ u : Ep, onG u ∧ u.2.val = lowY n ∧ u.1.val % 2 = topO n ∧ u.1.val = rdX n := by
  obtain ⟨hy, hs, h0⟩ := h
  have ho : topO n < 2 := by unfold topO; omega
  have hyv : (toG (lowY n)).val = lowY n := Nat.mod_eq_of_lt hy
  have hv : (toG (rtX (lowY n))).val = rtX (lowY n) := Nat.mod_eq_of_lt (rtX_lt hs)
  have hon := rtX_on hs
  by_cases hp : rtX (lowY n) % 2 = topO n
  · refine ⟨_, hon, hyv, ?_, ?_⟩
    · show (toG (rtX (lowY n))).val % 2 = _
      rw [hv]; exact hp
    · show (toG (rtX (lowY n))).val = _
      rw [hv, rdX, if_pos hp]
  · have hx : toG (rtX (lowY n)) ≠ 0 := fun e => by
      have e0 : rtX (lowY n) = 0 := by rw [← hv, e]; rfl
      have := (rtX_zero hs).mp e0
      rcases h0 with h0 | h0
      · exact h0 this
      · rw [e0] at hp; omega
    refine ⟨_, on_opp hon, hyv, ?_, ?_⟩
    · show (0 - toG (rtX (lowY n))).val % 2 = _
      rw [Gneg_odd hx, hv]; omega
    · show (0 - toG (rtX (lowY n))).val = _
      rw [Gneg_val hx, hv, rdX, if_neg hp]
theorem rd_no {n : Nat} (hn : n < 18446744073709551616) (h : ¬ Has n) (hs : Sq (gsqr (toG (lowY n))).val) : isG (rdX n) (lowY n) = false := by
  cases hc : isG (rdX n) (lowY n) with
  | false => rfl
  | true =>
    exfalso
    apply h
    simp only [isG, Bool.and_eq_true, decide_eq_true_eq] at hc
    obtain ⟨⟨h1, h2⟩, _⟩ := hc
    refine ⟨h2, hs, ?_⟩
    by_cases h0 : gsqr (toG (lowY n)) = 0
    · refine Or.inr ?_
      have e0 := (rtX_zero hs).mpr h0
      rw [rdX, e0] at h1
      split at h1
      · omega
      · exact absurd h1 (by decide)
    · exact Or.inl h0
theorem rdX_lt {n : Nat} (hs : Sq (gsqr (toG (lowY n))).val) : rdX n < 18446744073709551616 := by
  have := rtX_le hs
  unfold rdX; split <;> omega
/-- A point's number tells it. -/
theorem has_edN {u : Ep} (hu : onG u) : Has (edN u) ∧ rdX (edN u) = u.1.val := by
  have hl := edN_low u
  have ht := edN_top u
  have hg : toG (lowY (edN u)) = u.2 := by rw [hl, toG_of_val]
  have hs : Sq (gsqr u.2).val := (Sq_on u.2).mpr ⟨u.1, hu⟩
  have hH : Has (edN u) := by
    refine ⟨by rw [hl]; exact RE_small _, by rw [hg]; exact hs, ?_⟩
    rw [hg, ht]
    by_cases h0 : gsqr u.2 = 0
    · refine Or.inr ?_
      rw [no_odd h0 hu]; rfl
    · exact Or.inl h0
  refine ⟨hH, ?_⟩
  obtain ⟨v, hv, h1, h2, h3⟩ := rd_yes (edN_lt u) hH
  rw [← h3]
  have e2 : v.2 = u.2 := Fin.ext (by rw [h1, hl])
  have hv' : onG (v.1, u.2) := by rw [← e2]; exact hv
  rw [on_one hv' hu (by rw [h2, ht])]
/-- The point of a Y whose X isn't above R / 2. -/
def lowP (y : Nat) : Ep := (toG (rtX y), toG y)
/-- It is there, and four times it isn't 0. -/
def Good (y : Nat) : Prop := Sq (gsqr (toG y)).val ∧ gsqr (toG y) ≠ 0 ∧ toG y ≠ 0
theorem good_four {y : Nat} (h : Sq (gsqr (toG y)).val) : gmul (lowP y) 4 ≠ gzero ↔ Good y := by
  show ¬ gmul (toG (rtX y), toG y) 4 = gzero ↔ _
  rw [four_zero (rtX_on h)]
  have hv : (toG (rtX y)).val = rtX y := Nat.mod_eq_of_lt (rtX_lt h)
  have hz : toG (rtX y) = 0 ↔ gsqr (toG y) = 0 := by
    rw [← rtX_zero h]
    constructor
    · intro e; rw [← hv, e]; rfl
    · intro e; rw [e]; rfl
  show ¬ (toG (rtX y) = 0 ∨ toG y = 0) ↔ _
  rw [hz]
  unfold Good
  constructor
  · intro hh; exact ⟨h, fun e => hh (Or.inl e), fun e => hh (Or.inr e)⟩
  · rintro ⟨_, h1, h2⟩ (e | e)
    · exact h1 e
    · exact h2 e
end Ob
namespace Ob
/-- The same, reckoned. -/
def goodB (y : Nat) : Bool := (decide ((gsqr (toG y)).val % R = 0) || decide ((gsqr (toG y)).val ^ ((R - 1) / 2) % R = 1)) && (decide (gsqr (toG y) ≠ 0) && decide (toG y ≠ 0))
theorem goodB_iff (y : Nat) : goodB y = true ↔ Good y := by
  unfold goodB Good Sq
  simp only [Bool.and_eq_true, Bool.or_eq_true, decide_eq_true_eq]
theorem good_of {y : Nat} (h : goodB y = true) : Good y := (goodB_iff y).mp h
theorem good_not {y : Nat} (h : goodB y = false) : ¬ Good y := fun g => by rw [(goodB_iff y).mpr g] at h; cases h
/-- The first of m numbers, from the k-th on, of which there is a found point. -/
def firstG (Y : Nat → Nat) : Nat → Nat → Option Nat
  | 0, _ => none
  | m + 1, k => if goodB (Y k) then some k else firstG Y m (k + 1)
theorem firstG_yes (Y : Nat → Nat) (m k : Nat) (hm : m = (m - 1) + 1) (h : goodB (Y k) = true) : firstG Y m k = some k := by
  rw [hm, firstG, if_pos h]
theorem firstG_no (Y : Nat → Nat) (m k : Nat) (hm : m = (m - 1) + 1) (h : goodB (Y k) = false) : firstG Y m k = firstG Y (m - 1) (k + 1) := by
  rw [hm, firstG, if_neg (by rw [h]; decide)]
  rfl
theorem firstG_good (Y : Nat → Nat) : ∀ m k j, firstG Y m k = some j → goodB (Y j) = true
  | 0, _, _, h => by cases h
  | m + 1, k, j, h => by
    rw [firstG] at h
    split at h
    · rename_i hg; cases h; exact hg
    · exact firstG_good Y m (k + 1) j h
theorem firstG_lt (Y : Nat → Nat) : ∀ m k j, firstG Y m k = some j → j < k + m
  | 0, _, _, h => by cases h
  | m + 1, k, j, h => by
    rw [firstG] at h
    split at h
    · cases h; omega
    · have := firstG_lt Y m (k + 1) j h; omega
theorem firstG_congr {Y Z : Nat → Nat} (h : ∀ k, Y k = Z k) : ∀ m k, firstG Y m k = firstG Z m k
  | 0, _ => rfl
  | m + 1, k => by rw [firstG, firstG, h, firstG_congr h m (k + 1)]
end Ob

namespace Ob
set_option linter.unusedVariables false
set_option linter.unusedSimpArgs false

/-- The sum of the first m bases, so often each. -/
def gcom (B : Nat → Ep) (v : Nat → Nat) : Nat → Ep
  | 0 => gzero
  | m + 1 => gadd (gcom B v m) (gmul (B m) (v m))
theorem gcom_on {B : Nat → Ep} (hB : ∀ i, onG (B i)) (v : Nat → Nat) : ∀ m, onG (gcom B v m)
  | 0 => onG_zero
  | m + 1 => onG_add (gcom_on hB v m) (onG_mul (hB m) _)
theorem gcom_congr (B : Nat → Ep) {v u : Nat → Nat} : ∀ m, (∀ i, i < m → v i = u i) → gcom B v m = gcom B u m
  | 0, _ => rfl
  | m + 1, h => by rw [gcom, gcom, gcom_congr B m (fun i hi => h i (by omega)), h m (by omega)]
theorem gmul_by {u : Ep} (hu : onG u) {N : Nat} (h : gmul u N = gzero) (n : Nat) : gmul u (n % N) = gmul u n := by
  have e : n = N * (n / N) + n % N := (Nat.div_add_mod n _).symm
  conv => rhs; rw [e, gmul_add hu, ← gmul_mul hu, h, gmul_zero, zero_gadd (onG_mul hu _)]
theorem gcom_rest {B : Nat → Ep} (hB : ∀ i, onG (B i)) {N : Nat} (hN : ∀ i, gmul (B i) N = gzero) (v : Nat → Nat) : ∀ m, gcom B (fun i => v i % N) m = gcom B v m
  | 0 => rfl
  | m + 1 => by rw [gcom, gcom, gcom_rest hB hN v m, gmul_by (hB m) (hN m)]
theorem gadd_swap {a b c d : Ep} (ha : onG a) (hb : onG b) (hc : onG c) (hd : onG d) : gadd (gadd a b) (gadd c d) = gadd (gadd a c) (gadd b d) := by
  rw [gadd_assoc ha hb (onG_add hc hd), ← gadd_assoc hb hc hd, gadd_comm b c, gadd_assoc hc hb hd, ← gadd_assoc ha hc (onG_add hb hd)]
theorem gcom_sum {B : Nat → Ep} (hB : ∀ i, onG (B i)) (v u : Nat → Nat) : ∀ m, gadd (gcom B v m) (gcom B u m) = gcom B (fun i => v i + u i) m
  | 0 => gadd_zero onG_zero
  | m + 1 => by
    rw [gcom, gcom, gcom, gadd_swap (gcom_on hB v m) (onG_mul (hB m) _) (gcom_on hB u m) (onG_mul (hB m) _), gcom_sum hB v u m, ← gmul_add (hB m)]
/-- Commitments add up. -/
theorem gcom_add {B : Nat → Ep} (hB : ∀ i, onG (B i)) {N : Nat} (hN : ∀ i, gmul (B i) N = gzero) (v u : Nat → Nat) (m : Nat) : gadd (gcom B v m) (gcom B u m) = gcom B (fun i => (v i + u i) % N) m := by
  rw [gcom_rest hB hN (fun i => v i + u i), gcom_sum hB]
/-- Two openings of one commitment: a sum of bases that is 0. -/
theorem gcom_two {B : Nat → Ep} (hB : ∀ i, onG (B i)) {N : Nat} (h0 : 0 < N) (hN : ∀ i, gmul (B i) N = gzero) (v u : Nat → Nat) (m : Nat) (h : gcom B v m = gcom B u m) : gcom B (fun i => (v i + (N - u i % N)) % N) m = gzero := by
  have e : gadd (gcom B u m) (gcom B (fun i => (v i + (N - u i % N)) % N) m) = gadd (gcom B u m) gzero := by
    rw [gadd_zero (gcom_on hB u m), gcom_add hB hN, ← h, ← gcom_rest hB hN v]
    refine gcom_congr B m fun i _ => ?_
    have hl := Nat.mod_lt (u i) h0
    rw [Nat.add_mod_mod]
    have e2 : u i + (v i + (N - u i % N)) = v i + N * (u i / N) + N := by
      have := Nat.div_add_mod (u i) N
      omega
    rw [e2, Nat.add_mod_right, Nat.add_mul_mod_self_left]
  exact gadd_left (gcom_on hB u m) (gcom_on hB _ m) onG_zero e
end Ob

namespace Ob
set_option linter.unusedVariables false
set_option linter.unusedSimpArgs false

theorem SE_pos : 0 < SE := by decide
/-- Multiples of the first point go by the rest. -/
theorem gen_rest (n : Nat) : gmul gGen (n % SE) = gmul gGen n := gmul_by onG_gen gen_S n
/-- A signature's equation. -/
theorem sign_eq (n k q : Nat) : gmul gGen ((n + q * k % SE) % SE) = gadd (gmul gGen n) (gmul (gmul gGen k) q) := by
  rw [gen_rest, gmul_add onG_gen, gen_rest, gmul_mul onG_gen, Nat.mul_comm]
/-- A key's point is of order S, and isn't 0. -/
theorem key_S (k : Nat) : gmul (gmul gGen k) SE = gzero := by
  rw [gmul_mul onG_gen, Nat.mul_comm, ← gmul_mul onG_gen, gen_S, gmul_zero]
theorem key_ne {k : Nat} (h0 : 0 < k) (hk : k < SE) : gmul gGen k ≠ gzero := fun e => by
  have := Nat.le_of_dvd h0 (gen_div e)
  omega
/-- Two multiples of the first point are the same just if their rests are. -/
theorem gen_inj {m n : Nat} (h : gmul gGen m = gmul gGen n) : m % SE = n % SE := by
  have key : ∀ a b : Nat, a ≤ b → gmul gGen a = gmul gGen b → a % SE = b % SE := fun a b hab e => by
    obtain ⟨d, rfl⟩ := Nat.exists_eq_add_of_le hab
    rw [gmul_add onG_gen] at e
    have e0 : gadd (gmul gGen a) gzero = gadd (gmul gGen a) (gmul gGen d) := by rw [gadd_zero (onG_mul onG_gen a)]; exact e
    have hd := gadd_left (onG_mul onG_gen a) onG_zero (onG_mul onG_gen d) e0
    obtain ⟨c, rfl⟩ := gen_div hd.symm
    rw [Nat.add_mul_mod_self_left]
  rcases Nat.le_total m n with h1 | h1
  · exact key m n h1 h
  · exact (key n m h1 h.symm).symm
/-- The key, turned. -/
theorem turn_eq (k t : Nat) : gmul gGen ((k + t) % SE) = gadd (gmul gGen k) (gmul gGen t) := by
  rw [gen_rest, gmul_add onG_gen]
/-- The rest of a number by S. -/
def toS (n : Nat) : Fin SE := Fin.ofNat SE n
theorem toS_val (n : Nat) : (toS n).val = n % SE := rfl
theorem toS_inj {a b : Nat} (ha : a < SE) (hb : b < SE) (h : toS a = toS b) : a = b := by
  have := congrArg Fin.val h
  rw [toS_val, toS_val, Nat.mod_eq_of_lt ha, Nat.mod_eq_of_lt hb] at this
  exact this
theorem toS_mod (a : Nat) : toS (a % SE) = toS a := Fin.ext (by rw [toS_val, toS_val, Nat.mod_mod])
theorem toS_add (a b : Nat) : toS (a + b) = toS a + toS b := Fin.ext (by rw [Fin.val_add, toS_val, toS_val, toS_val, ← Nat.add_mod])
theorem toS_mul (a b : Nat) : toS (a * b) = toS a * toS b := Fin.ext (by rw [Fin.val_mul, toS_val, toS_val, toS_val, ← Nat.mul_mod])
theorem toS_sub {a : Nat} (h : a ≤ SE) : toS (SE - a) = 0 - toS a := by
  apply Fin.ext
  rw [Fin.val_sub, toS_val, toS_val]
  show (SE - a) % SE = (SE - a % SE + 0) % SE
  rcases Nat.lt_or_ge a SE with h1 | h1
  · rw [Nat.mod_eq_of_lt h1, Nat.add_zero]
  · obtain rfl : a = SE := by omega
    rw [Nat.mod_self, Nat.sub_self, Nat.sub_zero, Nat.add_zero, Nat.zero_mod, Nat.mod_self]
theorem toS_zero {a : Nat} (h : toS a = 0) : a % SE = 0 := congrArg Fin.val h
/-- Two signatures of one nonce tell the key. -/
theorem two_tell {k n x y : Nat} (hk : k < SE) (hx : x < SE) (hy : y < SE) (hxy : x ≠ y) :
    ((n + x * k % SE) % SE + (SE - (n + y * k % SE) % SE)) % SE * (((x + (SE - y)) % SE) ^ (SE - 2) % SE) % SE = k := by
  have hl : (n + y * k % SE) % SE ≤ SE := Nat.le_of_lt (Nat.mod_lt _ SE_pos)
  have ed : toS ((x + (SE - y)) % SE) = toS x - toS y := by
    rw [toS_mod, toS_add, toS_sub (Nat.le_of_lt hy)]; grobner
  have h0 : ((x + (SE - y)) % SE) % SE ≠ 0 := fun e => hxy (toS_inj hx hy (by
    have : toS ((x + (SE - y)) % SE) = 0 := Fin.ext e
    rw [ed] at this
    grobner))
  have hf := lucasS.fermat ((x + (SE - y)) % SE) h0
  have e2 : SE - 1 = (SE - 2) + 1 := by decide
  rw [e2, Nat.pow_succ] at hf
  generalize (x + (SE - y)) % SE = d at *
  generalize d ^ (SE - 2) = i at *
  have hf2 : toS i * toS d = 1 := by rw [← toS_mul]; exact Fin.ext hf
  refine toS_inj (Nat.mod_lt _ SE_pos) hk ?_
  rw [toS_mod, toS_mul, toS_mod, toS_mod, toS_add, toS_sub hl, toS_mod, toS_mod, toS_add, toS_add, toS_mod, toS_mod, toS_mul, toS_mul]
  rw [ed] at hf2
  clear hf ed h0
  generalize toS i = I at *
  generalize toS x = X at *
  generalize toS y = Y at *
  generalize toS n = N at *
  generalize toS k = K at *
  grobner
end Ob

namespace Go.Proofs.YtdhbkhmknnlmnaaDoor
open Go.RowKit Go.Proofs
set_option linter.unusedVariables false
set_option linter.unusedSimpArgs false
attribute [local go_sem ↓] Go.wp_at_zero Go.wp_at_succ

/-- Byte number i of the words ns. -/
def lowBy (ns : Nat → Nat) (i : Nat) : Nat := ns (i / 4) / 256 ^ (i % 4) % 256
theorem lowBy_lt (ns : Nat → Nat) (i : Nat) : lowBy ns i < 256 := Nat.mod_lt _ (by decide)
theorem lowBy_at (ns : Nat → Nat) (i j : Nat) (hj : j < 4) : lowBy ns (4 * i + j) = ns i / 256 ^ j % 256 := by
  unfold lowBy
  rw [show (4 * i + j) / 4 = i by omega, show (4 * i + j) % 4 = j by omega]

set_option maxHeartbeats 1000000 in
theorem lowBytesW (b k cap : Nat) (ns : Nat → Nat) (hns : Ob.Words32 ns) (w : World) (hk : k ≤ 1000000) (hc : Rd w .u32 b k ns) :
    Calls Tryd.prog 74 #[.slice (some ⟨b, 0, none⟩) k cap] w fun e w' => e = .returned (.slice (some ⟨w.heap.size, 0, none⟩) (4 * k) (4 * k)) ∧ w'.ownsRow w.heap.size 5 1 (.slice (some ⟨w.heap.size, 0, none⟩) (4 * k) (4 * k)) (4 * k) (vals (lowBy ns) (4 * k)) ∧ Below w.heap.size w w' := by
  obtain ⟨i0, hi, hz1, hz2, hz0⟩ := byteInfo
  have hm : 4 * k ≤ maxLen := by unfold maxLen; omega
  have hc' : Hid (Rd w .u32 b k ns) := hc
  have hn' : Hid (Ob.Words32 ns) := hns
  clear hc hns
  go_enter Tryd.func74, Tryd.ntmps74
  go_wp2_with (at_make; refine wpList_make_own _ rfl _ _ 34 rfl w.heap.size 5 i0 _ 1 Tryd.underlying34 hi hz0 hz1 _ _ _ (4 * k) rfl rfl (by omega) (by rw [hz2]; omega) hm (Nat.le_refl _) ?_; intro w0 hown0 hgrow0)
  have hB0 : Below w.heap.size w w0 := (Below.refl _ _).grown hgrow0 (Nat.le_refl _) (fun k h => by cases h)
  clear hgrow0
  go_loopw [3, 12] (fun sb si wr => ∃ i : Nat, i ≤ k ∧ si = .int .i64 i ∧ sb = .slice (some ⟨w.heap.size, 0, none⟩) (4 * i) (4 * k) ∧ wr.ownsRow w.heap.size 5 1 (.slice (some ⟨w.heap.size, 0, none⟩) (4 * i) (4 * k)) (4 * i) (vals (lowBy ns) (4 * i)) ∧ Below w.heap.size w wr) (fun _ si _ => k - (intOf si).toNat)
  case atStart => exact ⟨0, by omega, rfl, rfl, hown0, hB0⟩
  case round =>
    obtain ⟨i, hik, rfl, rfl, hown, hB⟩ := hrel
    clear hown0 hB0
    by_cases hlt : i < k
    · have hci := (hc'.out.below hB hc'.out.lt).c i hlt
      have hni := hn'.out i
      have e0 : Hid (lowBy ns (4 * i) = ns i % 256) := by have := lowBy_at ns i 0 (by decide); rw [Nat.add_zero, Nat.pow_zero, Nat.div_one] at this; exact this
      have e1 : Hid (lowBy ns (4 * i + 1) = ns i / 256 % 256) := lowBy_at ns i 1 (by decide)
      have e2 : Hid (lowBy ns (4 * i + 2) = ns i / 65536 % 256) := lowBy_at ns i 2 (by decide)
      have e3 : Hid (lowBy ns (4 * i + 3) = ns i / 16777216 % 256) := lowBy_at ns i 3 (by decide)
      obtain ⟨n, hn⟩ : ∃ n, Hid (ns i = n) := ⟨_, rfl⟩
      rw [hn.out] at hci hni e0 e1 e2 e3
      obtain ⟨b0, f0, g0⟩ : ∃ x : Nat, Hid (n % 256 = x) ∧ IntKind.u8.wrap (n : Int) = (x : Int) := ⟨_, rfl, by rw [IntKind.wrap_u8]; omega⟩
      obtain ⟨b1, f1, g1⟩ : ∃ x : Nat, Hid (n / 256 % 256 = x) ∧ IntKind.u8.wrap ((n : Int) / 256) = (x : Int) := ⟨_, rfl, by rw [IntKind.wrap_u8]; omega⟩
      obtain ⟨b2, f2, g2⟩ : ∃ x : Nat, Hid (n / 65536 % 256 = x) ∧ IntKind.u8.wrap ((n : Int) / 65536) = (x : Int) := ⟨_, rfl, by rw [IntKind.wrap_u8]; omega⟩
      obtain ⟨b3, f3, g3⟩ : ∃ x : Nat, Hid (n / 16777216 % 256 = x) ∧ IntKind.u8.wrap ((n : Int) / 16777216) = (x : Int) := ⟨_, rfl, by rw [IntKind.wrap_u8]; omega⟩
      rw [f0.out] at e0
      rw [f1.out] at e1
      rw [f2.out] at e2
      rw [f3.out] at e3
      have hown2 := hown.alloc (.cells #[.int .u8 (b0 : Nat), .int .u8 (b1 : Nat), .int .u8 (b2 : Nat), .int .u8 (b3 : Nat)] 5)
      have hroom : 4 * i + 4 ≤ 4 * k := by omega
      have i0' : (i : Int) < (k : Int) := by omega
      have i1' : (0 : Int) ≤ (i : Int) := by omega
      have hnews : ∀ (j : Nat) (u : Value), [Value.int .u8 (b0 : Nat), .int .u8 (b1 : Nat), .int .u8 (b2 : Nat), .int .u8 (b3 : Nat)][j]? = some u → (wr.alloc (.cells #[.int .u8 (b0 : Nat), .int .u8 (b1 : Nat), .int .u8 (b2 : Nat), .int .u8 (b3 : Nat)] 5)).cell? ((⟨wr.heap.size, 0, none⟩ : Addr).add j) = some u := fun j u h => by
        rw [Addr.add_mid, Nat.zero_add, World.cell?_alloc_new, List.getElem?_toArray]
        exact h
      have hv : Hid (vals (lowBy ns) (4 * i) ++ [.int .u8 (b0 : Nat), .int .u8 (b1 : Nat), .int .u8 (b2 : Nat), .int .u8 (b3 : Nat)] = vals (lowBy ns) (4 * (i + 1))) := by
        show _ = _
        rw [show 4 * (i + 1) = 4 * i + 1 + 1 + 1 + 1 by omega, vals_succ, vals_succ, vals_succ, vals_succ, e0.out, e1.out, show 4 * i + 1 + 1 = 4 * i + 2 by omega, e2.out, show 4 * i + 2 + 1 = 4 * i + 3 by omega, e3.out]
        simp
      go_wp2_with (at_builtin; refine wpList_append_own_spare _ rfl _ _ 34 rfl w.heap.size 5 i0 1 Tryd.underlying34 hi hz1 w.heap.size (4 * i) (4 * k) _ rfl hown2 ⟨wr.heap.size, 0, none⟩ 4 4 _ rfl rfl hnews (by simp [Value.oneCell']) hroom ?_; intro w1 hown3 hgrow1)
      rw [hv.out] at hown3
      have hB2 : Below w.heap.size w w1 := (hB.alloc hB.size _).grown hgrow1 (by have := hB.size; simp only [World.size_alloc]; omega) (fun k h => by cases h; exact Nat.le_refl _)
      go_roundw
      case rel => exact ⟨i + 1, by omega, by go_num, rfl, hown3, hB2⟩
      case measure => simp [intOf]; omega
    · obtain rfl : i = k := by omega
      go_wp2
      go_ret
      exact ⟨rfl, hown, hB⟩
end Go.Proofs.YtdhbkhmknnlmnaaDoor

namespace Go.Proofs.YtdhbkhmknnlmnaaDoor
open Go.RowKit Go.Proofs
set_option linter.unusedVariables false
set_option linter.unusedSimpArgs false
attribute [local go_sem ↓] Go.wp_at_zero Go.wp_at_succ

theorem or_low (n x k : Nat) (hn : n < 2 ^ (8 * k)) (hx : x < 256) (hk : k < 8) : bits .or .u64 (n : Int) (IntKind.u64.wrap ((x : Int) * 2 ^ (8 * k))) = ((n + x * 2 ^ (8 * k) : Nat) : Int) := by
  have h8 : 2 ^ (8 * k) * 256 ≤ 2 ^ 64 := by
    have : (2 : Nat) ^ (8 * k + 8) ≤ 2 ^ 64 := Nat.pow_le_pow_right (by decide) (by omega)
    rwa [Nat.pow_add] at this
  have h1 : x * 2 ^ (8 * k) < 2 ^ 64 := by
    have : (x + 1) * 2 ^ (8 * k) ≤ 256 * 2 ^ (8 * k) := Nat.mul_le_mul_right _ hx
    have hp : 0 < 2 ^ (8 * k) := Nat.two_pow_pos _
    rw [Nat.add_mul, Nat.one_mul] at this
    rw [Nat.mul_comm] at h8
    omega
  have h2 : n < 2 ^ 64 := by omega
  have e : IntKind.u64.wrap ((x : Int) * 2 ^ (8 * k)) = ((x * 2 ^ (8 * k) : Nat) : Int) := by
    rw [IntKind.wrap_u64]
    have : (x : Int) * 2 ^ (8 * k) = ((x * 2 ^ (8 * k) : Nat) : Int) := by simp
    rw [this]
    generalize x * 2 ^ (8 * k) = y at *
    omega
  rw [e, bits_or_u64_nat _ _ h2 h1, Nat.mul_comm x, Nat.or_comm, ← Nat.two_pow_add_eq_or_of_lt hn x, Nat.add_comm]

set_option maxHeartbeats 400000 in
theorem lowNumberW (b off L cap : Nat) (hL : L ≤ 8) (z : Nat → Nat) (hz : ∀ i, z i < 256) (w : World) (hB : Bys w b off L z) :
    Calls Tryd.prog 63 #[.slice (some ⟨b, off, none⟩) L cap] w fun e w' => e = .returned (.int .u64 (Ob.lowN z L : Nat)) ∧ w = w' := by
  have hc := hB.at_
  clear hB
  go_enter Tryd.func63, Tryd.ntmps63
  go_wp2
  go_loop [3, 8] (fun sn si => ∃ k : Nat, k ≤ L ∧ si = .int .i64 k ∧ sn = .int .u64 (Ob.lowN z k : Nat)) (fun _ si => L - (intOf si).toNat)
  case atStart => exact ⟨0, by omega, rfl, rfl⟩
  case round =>
    obtain ⟨k, hk, rfl, rfl⟩ := hrel
    by_cases hlt : k < L
    · have hck := hc k hlt
      clear hc
      have hzk := hz k
      have hor := or_low (Ob.lowN z k) (z k) k (Ob.lowN_lt hz k) hzk (by omega)
      have hn : Hid (Ob.lowN z (k + 1) = Ob.lowN z k + z k * 2 ^ (8 * k)) := rfl
      obtain ⟨N', hN'⟩ : ∃ N', Hid (Ob.lowN z (k + 1) = N') := ⟨_, rfl⟩
      rw [← hn.out, hN'.out] at hor
      have i0 : (k : Int) < (L : Int) := by omega
      have i1 : (0 : Int) ≤ (k : Int) := by omega
      have i2 : IntKind.i64.wrap (8 * (k : Int)) = ((8 * k : Nat) : Int) := by rw [IntKind.wrap_i64]; omega
      obtain ⟨s, hs⟩ : ∃ s, Hid (8 * k = s) := ⟨_, rfl⟩
      rw [hs.out] at hor i2
      have i3 : (0 : Int) ≤ (s : Int) := by omega
      generalize Ob.lowN z k = N at hor ⊢
      have hmin : min s 64 = s := by have := hs.out; omega
      generalize z k = zk at hck hzk hor
      clear hz
      go_wp2
      go_round
      case rel => exact ⟨k + 1, by omega, by go_num, by rw [hN'.out]⟩
      case measure => simp [intOf]; omega
    · obtain rfl : k = L := by omega
      clear hc
      go_wp2
      go_ret
      exact ⟨rfl, rfl⟩

theorem lowN_four (z : Nat → Nat) : Ob.lowN z 4 = z 0 + 256 * z 1 + 65536 * z 2 + 16777216 * z 3 := by
  simp only [Ob.lowN]
  omega
theorem wordW (b off cap : Nat) (z : Nat → Nat) (hz : ∀ i, z i < 256) (w : World) (hB : Bys w b off 4 z) :
    Calls Tryd.prog 83 #[.slice (some ⟨b, off, none⟩) 4 cap] w fun e w' => e = .returned (.int .u32 (Ob.lowN z 4 : Nat)) ∧ w = w' := by
  have c := lowNumberW b off 4 cap (by decide) z hz w hB
  have hl : Ob.lowN z 4 < 4294967296 := Ob.lowN_lt hz 4
  have hw : IntKind.u32.wrap ((Ob.lowN z 4 : Nat) : Int) = ((Ob.lowN z 4 : Nat) : Int) := by rw [IntKind.wrap_u32]; omega
  generalize Ob.lowN z 4 = x at *
  go_enter Tryd.func83, Tryd.ntmps83
  go_wp2_with (go_at_call 63; with_reducible refine c.mono ?_; rintro e w' ⟨rfl, rfl⟩)
  go_ret
  exact ⟨rfl, rfl⟩

def wordsI (z : Nat → Nat) (i j : Nat) : Nat := if j < i then wordAt z j else 0
theorem wordsI_zero (z : Nat → Nat) : wordsI z 0 = fun _ => 0 := by funext j; simp [wordsI]
theorem wordsI_succ (z : Nat → Nat) (i : Nat) : Ob.upd (wordsI z i) i (wordAt z i) = wordsI z (i + 1) := by
  funext j
  unfold Ob.upd wordsI
  by_cases h1 : j = i
  · subst h1; simp
  · by_cases h2 : j < i
    · simp [h1, h2, Nat.lt_succ_of_lt h2]
    · simp [h1, h2]; omega

set_option maxHeartbeats 4000000 in
theorem blockWords_core (z : Nat → Nat) (hz : ∀ i, z i < 256) (w : World) :
    Calls Tryd.prog 85 #[arrV .u8 z 64] w fun e w' => e = .returned (arrV .u32 (wordAt z) 16) ∧ Below w.heap.size w w' := by
  unfold arrV
  have hl := arrL_length .u8 z 64
  have hz' : Hid (∀ i, z i < 256) := hz
  clear hz
  go_enter Tryd.func85, Tryd.ntmps85
  go_upto_region 2 with (fail)
  obtain ⟨W0, hW0⟩ : ∃ W, Hid ((((w.alloc (.cells (arrL .u8 z 64).toArray 91)).alloc (.cells (arrL .u32 (fun _ => 0) 16).toArray 81)).alloc (.cells (arrL .u32 (fun _ => 0) 16).toArray 81)) = W) := ⟨_, rfl⟩
  have th0 : Arr W0 .u8 w.heap.size 64 z := by rw [← hW0.out]; exact ((Arr.new rfl).alloc _).alloc _
  have tr0 : Arr W0 .u32 (w.heap.size + 1) 16 (fun _ => 0) := by rw [← hW0.out]; exact (Arr.new (by simp)).alloc _
  have tv0 : Arr W0 .u32 (w.heap.size + 1 + 1) 16 (wordsI z 0) := by rw [← hW0.out, wordsI_zero]; exact Arr.new (by simp)
  have hB0 : Below w.heap.size w W0 := by rw [← hW0.out]; (repeat' (first | (with_reducible first | exact Below.refl _ _ | assumption | refine Below.alloc ?_ ?_ _ | refine Below.drew ?_ | refine below_drewN ?_ _ | refine Below.setCell ?_ ?_ _ | refine below_via (by with_reducible assumption) ?_ ?_) | omega | (simp only [szs]; omega) | (simp only [szs] at *; omega)))
  change Code.wp _ _ _ _ (((w.alloc (.cells (arrL .u8 z 64).toArray 91)).alloc (.cells (arrL .u32 (fun _ => 0) 16).toArray 81)).alloc (.cells (arrL .u32 (fun _ => 0) 16).toArray 81))
  rw [hW0.out]
  clear hW0
  obtain ⟨N, hN⟩ : ∃ N, Hid (w.heap.size = N) := ⟨_, rfl⟩
  rw [hN.out] at tv0 th0 tr0 hB0 ⊢
  go_wp2
  go_loopw [5] (fun s5 wr => ∃ (i : Nat), i ≤ 16 ∧ s5 = .int .i64 (i : Nat) ∧ Hid (Arr wr .u8 N 64 z) ∧ Hid (Arr wr .u32 (N + 1) 16 (fun _ => 0)) ∧ Hid (Arr wr .u32 (N + 1 + 1) 16 (wordsI z i)) ∧ Below N w wr) (fun s5 _ => 16 - (intOf s5).toNat)
  case atStart => exact ⟨0, by omega, rfl, th0, tr0, tv0, hB0⟩
  case round =>
    clear tv0 th0 tr0 hB0
    obtain ⟨i, hi, rfl, th, tr, tv, hB⟩ := hrel
    have l0 := hB.size
    by_cases hlt : i < 16
    · have y : Bys wr N (4 * i) 4 (fun j => z (4 * i + j)) := ⟨th.out.lt, fun j hj => th.out.c (4 * i + j) (by omega)⟩
      have hx : Hid (Ob.lowN (fun j => z (4 * i + j)) 4 = wordAt z i) := lowN_four _
      have c1 := wordW N (4 * i) (64 - 4 * i) _ (fun j => hz'.out (4 * i + j)) wr y
      rw [hx.out] at c1
      have p2 := tv.out.c i (by omega)
      have p4 := tv.out.f i (by omega)
      have i0 : (i : Int) < 16 := by omega
      have i1 : (0 : Int) ≤ (i : Int) := by omega
      obtain ⟨s, hs, i2⟩ : ∃ s : Nat, Hid (4 * i = s) ∧ IntKind.i64.wrap (4 * (i : Int)) = (s : Int) := ⟨4 * i, rfl, by rw [IntKind.wrap_i64]; omega⟩
      obtain ⟨i', hi', i3⟩ : ∃ s : Nat, Hid (i + 1 = s) ∧ IntKind.i64.wrap ((i : Int) + 1) = (s : Int) := ⟨i + 1, rfl, by rw [IntKind.wrap_i64]; omega⟩
      obtain ⟨t, ht, i4⟩ : ∃ s : Nat, Hid (4 * i + 4 = s) ∧ IntKind.i64.wrap (4 * (i' : Int)) = (s : Int) := ⟨4 * i + 4, rfl, by rw [IntKind.wrap_i64]; have := hi'.out; omega⟩
      rw [hs.out] at c1
      have s0 : (0 : Int) ≤ (s : Int) := by omega
      have s1 : (s : Int) ≤ (t : Int) := by have := hs.out; have := ht.out; omega
      have s2 : (t : Int) ≤ 64 := by have := ht.out; omega
      have s3 : t - s = 4 := by have := hs.out; have := ht.out; omega
      have s4 : 64 ≠ s := by have := hs.out; omega
      obtain ⟨X, hX⟩ : ∃ X, Hid (wordAt z i = X) := ⟨_, rfl⟩
      rw [hX.out] at c1
      clear y hx
      go_upto_region 5 with (fail)
      go_wp2_with (go_at_call 83; with_reducible refine c1.mono ?_; rintro e w' ⟨rfl, rfl⟩)
      have q := tv.out.set (i := i) (z := X) hlt
      rw [← hX.out, wordsI_succ, hX.out] at q
      have hB1 : Below N w (wr.setCell ⟨N + 1 + 1, i, none⟩ (.int .u32 (X : Nat))) := by (repeat' (first | (with_reducible first | exact Below.refl _ _ | assumption | refine Below.alloc ?_ ?_ _ | refine Below.drew ?_ | refine below_drewN ?_ _ | refine Below.setCell ?_ ?_ _ | refine below_via (by with_reducible assumption) ?_ ?_) | omega | (simp only [szs]; omega) | (simp only [szs] at *; omega)))
      go_roundw
      case rel => exact ⟨i + 1, by omega, by rw [hi'.out], th.out.far (by omega) _ _, tr.out.far (by omega) _ _, q, hB1⟩
      case measure => (simp only [intOf, Int.toNat_natCast]; have := hi'.out; omega)
    · obtain rfl : i = 16 := by omega
      have t0 : Arr wr .u32 (N + 1 + 1) 16 (wordAt z) := tv.out.congr (fun j hj => by unfold wordsI; rw [if_pos hj])
      go_upto_region 7 with (fail)
      go_wp2_with (first | ((with_reducible refine wpList_loadLit t0 ?_ Tryd.underlying81 ?_ ?_ ?_); (focus rfl); (focus rfl); (focus kernel_rfl); simp only [Act.put, List.setIfInBounds_toArray, List.set_cons_zero, List.set_cons_succ]) | ((with_reducible refine wpList_storeLit (wordAt z) tr.out ?_ ?_ ?_ ?_); (focus rfl); (focus rfl); (focus kernel_rfl); intro W5 hW5_ tW5_ zW5_; try simp only [Act.put, List.setIfInBounds_toArray, List.set_cons_zero, List.set_cons_succ]))
      have hB5 : Below w.heap.size w W5 := by rw [hW5_.out, hN.out]; exact below_setCells hB (by omega) _ _
      have rv := tW5_.out.loadVar Tryd.underlying81 rfl (by kernel_rfl)
      exact bodyPost_ret (v := .agg (arrL .u32 (wordAt z) 16).toArray) (by simp [results, Tryd.results85, asAddr, rv]) rfl ⟨rfl, hB5⟩
end Go.Proofs.YtdhbkhmknnlmnaaDoor

namespace Go.Proofs.YtdhbkhmknnlmnaaDoor
open Go
set_option linter.unusedVariables false
set_option linter.unusedSimpArgs false
section
variable {P : Program} {ops : Array Oper} {Q : Exit → Act → World → Prop} {md : Region.Mode} {S : World → Prop} {Z : List Nat}

/-- Whatever order is picked; S holds behind each operation but those of Z. -/
def AnyZ (P : Program) (md : Region.Mode) (ops : Array Oper) (Q : Exit → Act → World → Prop) (S : World → Prop) (Z : List Nat) : Nat → Array Bool → Act → World → Prop
  | 0, L, a, w => Region.ready md ops L = [] ∧ Q .normal a w
  | n + 1, L, a, w => (Region.ready md ops L = [] → Q .normal a w) ∧
    ∀ i ∈ Region.ready md ops L, wpOp P ops Q i (fun a' w' => (Z.contains i = false → S w → S w') ∧ AnyZ P md ops Q S Z n (L.setIfInBounds i true) a' w') a w

theorem AnyZ.any : ∀ (n : Nat) (L : Array Bool) (a : Act) (w : World), AnyZ P md ops Q S Z n L a w → wpAny P md ops Q n L a w
  | 0, _, _, _, h => h
  | n + 1, _, _, _, h => ⟨h.1, fun i hi => wpOp_mono (fun a' w' k => AnyZ.any n _ a' w' k.2) (h.2 i hi)⟩

/-- Each of Z waits for number i. -/
def waits (md : Region.Mode) (ops : Array Oper) (Z : List Nat) (i : Nat) : Bool :=
  Z.all fun j => match ops[j]? with
    | some o => o.after.any fun e => Region.binds md e && e.on == i
    | none => false
theorem waits_not {i j : Nat} {L : Array Bool} (h : waits md ops Z i = true) (hi : i ∈ Region.ready md ops L) (hj : j ∈ Region.ready md ops L) : Z.contains j = false := by
  cases hz : Z.contains j with
  | false => rfl
  | true =>
    have hm : j ∈ Z := by simpa using hz
    have h1 := List.all_eq_true.1 h j hm
    obtain ⟨_, o, ho, hall⟩ := mem_ready.1 hj
    rw [ho] at h1
    obtain ⟨e, he, hb⟩ := Array.any_eq_true'.1 h1
    simp only [Bool.and_eq_true, beq_iff_eq] at hb
    have h2 := hall e he hb.1
    rw [hb.2] at h2
    have h3 := (mem_ready.1 hi).1
    cases hl : L[i]? with
    | none => simp [hl] at h2
    | some b => simp [hl] at h2 h3; rw [h2] at h3; cases h3

theorem AnyZ.first {i : Nat} {o : Oper} {v : Value} (hi : ops[i]? = some o) (hs : ∀ (j : Nat) (o : Oper) cs b, ops[j]? = some o → o.op ≠ .select cs b)
    (hQ : ∀ c a w, Q (.panic c) (a.put o.dst v) w → Q (.panic c) a w) (hz : waits md ops Z i = true) :
    ∀ (n : Nat) (L : Array Bool) (a : Act) (w : World),
      (∀ j oj, ops[j]? = some oj → j ≠ i → L.getD j true = false → (∀ e ∈ oj.after, Region.binds md e = true → e.on ≠ i) → o.apart ops oj = true) →
      i ∈ Region.ready md ops L → YieldsIf P ops S o v a → S w → AnyZ P md ops Q S Z n (L.setIfInBounds i true) (a.put o.dst v) w → AnyZ P md ops Q S Z (n + 1) L a w
  | n, L, a, w, hfree, hr, hy, hS, H => by
    refine ⟨fun h => absurd hr (by simp [h]), fun j hj => ?_⟩
    by_cases hji : j = i
    · subst hji
      exact hy.wpOp hi hS ⟨fun _ _ => hS, H⟩
    have hj2 := ready_mono hj hji
    cases n with
    | zero => exact absurd hj2 (by simp [H.1])
    | succ n =>
      obtain ⟨hun, oj, hoj, hall⟩ := mem_ready.1 hj
      have hno : ∀ e ∈ oj.after, Region.binds md e = true → e.on ≠ i := fun e he hb e1 => by
        have h2 := hall e he hb
        have h3 := (mem_ready.1 hr).1
        rw [e1] at h2
        cases hl : L[i]? with
        | none => simp [hl] at h2
        | some b => simp [hl] at h2 h3; rw [h2] at h3; cases h3
      have hk := waits_not hz hr hj
      refine wpOp_mono (fun a' w' h3 => ?_) (wpOp_putIf hoj (hfree j oj hoj hji hun hno) (fun cs b => hs i o cs b hi) (fun cs b => hs j oj cs b hoj) hQ hy (H.2 j hj2))
      refine ⟨h3.2.1, AnyZ.first hi hs hQ hz n _ a' w' (fun k ok hok hki hun' hno' => hfree k ok hok hki ?_ hno') (ready_mono hr (Ne.symm hji)) h3.1 (h3.2.1 hk hS) ?_⟩
      · by_cases hjk : j = k
        · subst hjk; exact hun
        · rwa [getD_set_ne true hjk] at hun'
      · rw [Array.setIfInBounds_comm _ _ hji]
        exact h3.2.2

theorem anyZ_take {i : Nat} {oi : Oper} {v : Value} {n : Nat} {L : Array Bool} {a : Act} {w : World} (hi : ops[i]? = some oi) (hz : waits md ops Z i = true)
    (hs : Region.noSelect ops = true) (hf : Region.free md ops L i = true) (hr : (Region.ready md ops L).contains i = true)
    (hQ : ∀ c a w, Q (.panic c) (a.put oi.dst v) w → Q (.panic c) a w) (hy : YieldsIf P ops S oi v a) (hS : S w)
    (h : AnyZ P md ops Q S Z n (L.setIfInBounds i true) (a.put oi.dst v) w) : AnyZ P md ops Q S Z (n + 1) L a w :=
  AnyZ.first hi (Region.noSelect_spec hs) hQ hz n L a w (Region.free_spec hi hf) (by simpa using hr) hy hS h

/-- One that yields the same in every world may be taken first, whatever waits for it. -/
theorem AnyZ.free {i : Nat} {o : Oper} {v : Value} (hi : ops[i]? = some o) (hs : ∀ (j : Nat) (o : Oper) cs b, ops[j]? = some o → o.op ≠ .select cs b)
    (hQ : ∀ c a w, Q (.panic c) (a.put o.dst v) w → Q (.panic c) a w) :
    ∀ (n : Nat) (L : Array Bool) (a : Act) (w : World),
      (∀ j oj, ops[j]? = some oj → j ≠ i → L.getD j true = false → (∀ e ∈ oj.after, Region.binds md e = true → e.on ≠ i) → o.apart ops oj = true) →
      i ∈ Region.ready md ops L → YieldsIf P ops (fun _ => True) o v a → AnyZ P md ops Q S Z n (L.setIfInBounds i true) (a.put o.dst v) w → AnyZ P md ops Q S Z (n + 1) L a w
  | n, L, a, w, hfree, hr, hy, H => by
    refine ⟨fun h => absurd hr (by simp [h]), fun j hj => ?_⟩
    by_cases hji : j = i
    · subst hji
      exact hy.wpOp hi True.intro ⟨fun _ h => h, H⟩
    have hj2 := ready_mono hj hji
    cases n with
    | zero => exact absurd hj2 (by simp [H.1])
    | succ n =>
      obtain ⟨hun, oj, hoj, hall⟩ := mem_ready.1 hj
      have hno : ∀ e ∈ oj.after, Region.binds md e = true → e.on ≠ i := fun e he hb e1 => by
        have h2 := hall e he hb
        have h3 := (mem_ready.1 hr).1
        rw [e1] at h2
        cases hl : L[i]? with
        | none => simp [hl] at h2
        | some b => simp [hl] at h2 h3; rw [h2] at h3; cases h3
      refine wpOp_mono (fun a' w' h3 => ?_) (wpOp_putIf hoj (hfree j oj hoj hji hun hno) (fun cs b => hs i o cs b hi) (fun cs b => hs j oj cs b hoj) hQ hy (H.2 j hj2))
      refine ⟨h3.2.1, AnyZ.free hi hs hQ n _ a' w' (fun k ok hok hki hun' hno' => hfree k ok hok hki ?_ hno') (ready_mono hr (Ne.symm hji)) h3.1 ?_⟩
      · by_cases hjk : j = k
        · subst hjk; exact hun
        · rwa [getD_set_ne true hjk] at hun'
      · rw [Array.setIfInBounds_comm _ _ hji]
        exact h3.2.2
theorem anyZ_free {i : Nat} {oi : Oper} {v : Value} {n : Nat} {L : Array Bool} {a : Act} {w : World} (hi : ops[i]? = some oi)
    (hs : Region.noSelect ops = true) (hf : Region.free md ops L i = true) (hr : (Region.ready md ops L).contains i = true)
    (hQ : ∀ c a w, Q (.panic c) (a.put oi.dst v) w → Q (.panic c) a w) (hy : YieldsIf P ops (fun _ => True) oi v a)
    (h : AnyZ P md ops Q S Z n (L.setIfInBounds i true) (a.put oi.dst v) w) : AnyZ P md ops Q S Z (n + 1) L a w :=
  AnyZ.free hi (Region.noSelect_spec hs) hQ n L a w (Region.free_spec hi hf) (by simpa using hr) hy h

def AllZ (P : Program) (md : Region.Mode) (ops : Array Oper) (Q : Exit → Act → World → Prop) (S : World → Prop) (Z : List Nat) (n : Nat) (L : Array Bool) (a : Act) (w : World) (rs : List Nat) : Prop :=
  ∀ i ∈ rs, wpOp P ops Q i (fun a' w' => (Z.contains i = false → S w → S w') ∧ AnyZ P md ops Q S Z n (L.setIfInBounds i true) a' w') a w
theorem AllZ.nil {n : Nat} {L : Array Bool} {a : Act} {w : World} : AllZ P md ops Q S Z n L a w [] := fun _ h => absurd h (by simp)
/-- One that keeps S. -/
theorem AllZ.cons {n : Nat} {L : Array Bool} {a : Act} {w : World} {i : Nat} {o : Oper} {rs : List Nat} (ho : ops[i]? = some o)
    (h : ∀ K : Act → World → Prop, Shut (∀ a w, S w → (S w → AnyZ P md ops Q S Z n (L.setIfInBounds i true) a w) → K a w) → if Region.wanted o (yielded ops a.tmps) = true then Oper.wp P o a w K Q else K (a.put o.dst undef) w)
    (hs : AllZ P md ops Q S Z n L a w rs) : AllZ P md ops Q S Z n L a w (i :: rs) := fun j hj => by
  rcases List.mem_cons.1 hj with rfl | hj
  · exact wpOp_step ho fun K hK => h K fun a w hS hW => hK a w ⟨fun _ _ => hS, hW hS⟩
  · exact hs j hj
/-- One of Z. -/
theorem AllZ.last {n : Nat} {L : Array Bool} {a : Act} {w : World} {i : Nat} {o : Oper} {rs : List Nat} (ho : ops[i]? = some o) (hz : Z.contains i = true)
    (h : ∀ K : Act → World → Prop, Shut (∀ a w, AnyZ P md ops Q S Z n (L.setIfInBounds i true) a w → K a w) → if Region.wanted o (yielded ops a.tmps) = true then Oper.wp P o a w K Q else K (a.put o.dst undef) w)
    (hs : AllZ P md ops Q S Z n L a w rs) : AllZ P md ops Q S Z n L a w (i :: rs) := fun j hj => by
  rcases List.mem_cons.1 hj with rfl | hj
  · exact wpOp_step ho fun K hK => h K fun a w hW => hK a w ⟨fun e => absurd (hz.symm.trans e) (by decide), hW⟩
  · exact hs j hj
theorem anyZ_ready {rs : List Nat} {n : Nat} {L : Array Bool} {a : Act} {w : World} (hr : Region.ready md ops L = rs) (hne : rs ≠ []) (h : AllZ P md ops Q S Z n L a w rs) : AnyZ P md ops Q S Z (n + 1) L a w :=
  ⟨fun e => absurd (hr.symm.trans e) hne, by rw [hr]; exact h⟩
theorem anyZ_done {L : Array Bool} {a : Act} {w : World} (hr : Region.ready md ops L = []) (h : Q .normal a w) : ∀ n, AnyZ P md ops Q S Z n L a w
  | 0 => ⟨hr, h⟩
  | _ + 1 => ⟨fun _ => h, fun i hi => absurd hi (by simp [hr])⟩
theorem region_lastly {id : Nat} {a : Act} {w : World} (Z : List Nat) (hm : P.follows .mixedOrders = true) (hS : S w.drew)
    (h : S w.drew → AnyZ P .any ops Q S Z ops.size (Array.replicate ops.size false) a w.drew) : (Code.region id ops true).wp P Q a w :=
  wp_region_any hm (AnyZ.any _ _ _ _ (h hS))
end
end Go.Proofs.YtdhbkhmknnlmnaaDoor

namespace Go.Proofs.YtdhbkhmknnlmnaaDoor
open Go.RowKit Go.Proofs
set_option linter.unusedVariables false
set_option linter.unusedSimpArgs false
attribute [local go_sem ↓] Go.wp_at_zero Go.wp_at_succ

theorem rollL_num (x n : Nat) (hx : x < 4294967296) (hn : n ≤ 32) : bits .or .u32 (((x * 2 ^ (32 - n)) % 4294967296 : Nat) : Int) ((x / 2 ^ n : Nat) : Int) = ((Ob.rot x n : Nat) : Int) := by
  have e : (2 : Nat) ^ n * 2 ^ (32 - n) = 4294967296 := by rw [← Nat.pow_add, Nat.add_sub_cancel' hn]
  have e1 : x * 2 ^ (32 - n) % 4294967296 = x % 2 ^ n * 2 ^ (32 - n) := by rw [← e, Nat.mul_mod_mul_right]
  have h1 : x / 2 ^ n < 2 ^ (32 - n) := Nat.div_lt_of_lt_mul (by rw [e]; exact hx)
  have h3 := Ob.rot_lt hx hn
  unfold Ob.rot at h3
  have ha : x % 2 ^ n * 2 ^ (32 - n) < 2 ^ 32 := by omega
  have hb : x / 2 ^ n < 2 ^ 32 := by omega
  rw [e1, (bits_nat .u32 32 (by decide) wraps_u32 _ _ ha hb).2, Nat.mul_comm (x % 2 ^ n), ← Nat.two_pow_add_eq_or_of_lt h1 (x % 2 ^ n)]
  unfold Ob.rot
  rw [Nat.mul_comm (2 ^ (32 - n)), Nat.add_comm]
theorem left_num : ∀ p : Fin 32, 0 < p.val → bits .and .u64 (IntKind.u64.wrap (-(p.val : Int))) 31 = ((32 - p.val : Nat) : Int) := by decide +kernel

set_option maxHeartbeats 1000000 in
theorem rotW (x p : Nat) (hx : x < 4294967296) (hp0 : 0 < p) (hp : p < 32) (w : World) :
    Calls Tryd.prog 88 #[.int .u32 x, .int .i64 (-(p : Int))] w fun e w' => e = .returned (.int .u32 (Ob.rot x p : Nat)) ∧ w = w' := by
  obtain ⟨s, hs⟩ : ∃ s, Hid (32 - p = s) := ⟨_, rfl⟩
  have h1 : bits .and .u64 (IntKind.u64.wrap (-(p : Int))) 31 = (s : Int) := by rw [← hs.out]; exact left_num ⟨p, hp⟩ hp0
  have hs1 : 32 - s = p := by have := hs.out; omega
  have hs2 : 0 < s := by have := hs.out; omega
  have hs3 : s < 32 := by have := hs.out; omega
  have h4 : IntKind.u64.wrap (32 - (s : Int)) = ((32 - s : Nat) : Int) := by rw [IntKind.wrap_u64]; omega
  have h5 : bits .or .u32 ((x : Int) * 2 ^ s % 4294967296) ((x : Int) / 2 ^ p) = ((Ob.rot x p : Nat) : Int) := by
    rw [← rollL_num x p hx (by omega), hs.out]
    simp
  go_enter Tryd.func88, Tryd.ntmps88
  have g0 : (0 : Int) ≤ (s : Int) := by omega
  have g1 : ¬ (s : Int) < 0 := by omega
  have g2 : (s : Int) ≤ 32 := by omega
  have g3 : ¬ (32 : Int) < (s : Int) := by omega
  go_wp2
  go_ret
  exact ⟨rfl, rfl⟩

set_option maxHeartbeats 1000000 in
theorem half_core (a b c d x p q A B C D y s t : Nat) (w : World)
    (h1 : IntKind.u32.wrap ((b : Int) + (x : Int)) = (y : Int)) (h2 : IntKind.u32.wrap ((a : Int) + (y : Int)) = (A : Int))
    (h3 : bits .xor .u32 (d : Int) (A : Int) = (s : Int)) (h4 : IntKind.u32.wrap ((c : Int) + (D : Int)) = (C : Int)) (h5 : bits .xor .u32 (b : Int) (C : Int) = (t : Int))
    (p1 : IntKind.i64.wrap (-(p : Int)) = -(p : Int)) (q1 : IntKind.i64.wrap (-(q : Int)) = -(q : Int))
    (c1 : ∀ w, Calls Tryd.prog 88 #[.int .u32 s, .int .i64 (-(p : Int))] w fun e w' => e = .returned (.int .u32 D) ∧ w = w')
    (c2 : ∀ w, Calls Tryd.prog 88 #[.int .u32 t, .int .i64 (-(q : Int))] w fun e w' => e = .returned (.int .u32 B) ∧ w = w') :
    Calls Tryd.prog 87 #[.int .u32 a, .int .u32 b, .int .u32 c, .int .u32 d, .int .u32 x, .int .i64 p, .int .i64 q] w fun e w' => e = .returned (.tuple #[.int .u32 A, .int .u32 B, .int .u32 C, .int .u32 D]) ∧ w = w' := by
  go_enter Tryd.func87, Tryd.ntmps87
  go_wp2_with (first | (go_at_call 88; first | (with_reducible refine (c1 _).mono ?_; rintro e w' ⟨rfl, rfl⟩) | (with_reducible refine (c2 _).mono ?_; rintro e w' ⟨rfl, rfl⟩)))
  exact bodyPost_ret (v := .tuple #[.int .u32 A, .int .u32 B, .int .u32 C, .int .u32 D]) (by simp [results, Tryd.results87, go_sem]) rfl ⟨rfl, rfl⟩
theorem halfW (a b c d x p q A B C D : Nat) (ha : a < 4294967296) (hb : b < 4294967296) (hc : c < 4294967296) (hd : d < 4294967296) (hx : x < 4294967296) (hp0 : 0 < p) (hp : p < 32) (hq0 : 0 < q) (hq : q < 32)
    (hA : Ob.s32 a (Ob.s32 b x) = A) (hD : Ob.rot (d ^^^ A) p = D) (hC : Ob.s32 c D = C) (hB : Ob.rot (b ^^^ C) q = B) (w : World) :
    Calls Tryd.prog 87 #[.int .u32 a, .int .u32 b, .int .u32 c, .int .u32 d, .int .u32 x, .int .i64 p, .int .i64 q] w fun e w' => e = .returned (.tuple #[.int .u32 A, .int .u32 B, .int .u32 C, .int .u32 D]) ∧ w = w' := by
  have lA : A < 4294967296 := by rw [← hA]; exact Ob.s32_lt _ _
  have lC : C < 4294967296 := by rw [← hC]; exact Ob.s32_lt _ _
  refine half_core a b c d x p q A B C D (Ob.s32 b x) (d ^^^ A) (b ^^^ C) w ?_ ?_ (xor_u32 _ _ hd lA) ?_ (xor_u32 _ _ hb lC) ?_ ?_ ?_ ?_
  · rw [IntKind.wrap_u32]; unfold Ob.s32; omega
  · rw [← hA, IntKind.wrap_u32]; unfold Ob.s32; omega
  · rw [← hC, IntKind.wrap_u32]; unfold Ob.s32; omega
  · rw [IntKind.wrap_i64]; omega
  · rw [IntKind.wrap_i64]; omega
  · rw [← hD]; exact rotW _ p (Ob.xor_lt hd lA) hp0 hp
  · rw [← hB]; exact rotW _ q (Ob.xor_lt hb lC) hq0 hq
end Go.Proofs.YtdhbkhmknnlmnaaDoor

namespace Go.Proofs.YtdhbkhmknnlmnaaDoor
open Go.RowKit Go.Proofs

/-- The tables lie as the program lays them. -/
structure Tabs (w : World) : Prop where
  lt : 5 ≤ w.heap.size
  first : Rd w .u32 2 8 Ob.first
  rows : ∀ i j, i < 10 → j < 16 → w.cell? ⟨4, i * 16 + j, none⟩ = some (.int .u8 (Ob.sig i j : Nat))
  places : ∀ i j, i < 8 → j < 4 → w.cell? ⟨3, i * 4 + j, none⟩ = some (.int .u8 (Ob.plc i j : Nat))
theorem Tabs.below {w w1 : World} {B : Nat} (t : Tabs w) (hb : Below B w w1) (h : 5 ≤ B) : Tabs w1 :=
  ⟨Nat.le_trans t.lt hb.size, t.first.below hb (by omega), fun i j hi hj => by rw [(bcell hb).1 _ _ (by omega)]; exact t.rows i j hi hj, fun i j hi hj => by rw [(bcell hb).1 _ _ (by omega)]; exact t.places i j hi hj⟩

end Go.Proofs.YtdhbkhmknnlmnaaDoor

namespace Go.Proofs.YtdhbkhmknnlmnaaDoor
open Go.RowKit Go.Proofs
set_option linter.unusedVariables false
set_option linter.unusedSimpArgs false
attribute [local go_sem ↓] Go.wp_at_zero Go.wp_at_succ

def beginI (i j : Nat) : Nat := if j < i then Ob.first j else 0
theorem beginI_zero : beginI 0 = fun _ => 0 := by funext j; simp [beginI]
theorem beginI_succ (i : Nat) : Ob.upd (beginI i) i (Ob.first i) = beginI (i + 1) := by
  funext j
  unfold Ob.upd beginI
  by_cases h1 : j = i
  · subst h1; simp
  · by_cases h2 : j < i
    · simp [h1, h2, Nat.lt_succ_of_lt h2]
    · simp [h1, h2]; omega
theorem lowN_word0 (z : Nat → Nat) : Ob.lowN z 4 = wordAt z 0 := lowN_four z
theorem lowN_word1 (z : Nat → Nat) : Ob.lowN (fun i => z (4 + i)) 4 = wordAt z 1 := lowN_four _

set_option maxHeartbeats 4000000 in
theorem opened_core (s : ByteArray) (hs : s.size ≤ 8) (w : World) (hT : Tabs w) :
    Calls Tryd.prog 79 #[.string s] w fun e w' => e = .returned (arrV .u32 (Ob.open0 (wordAt (sby s) 0) (wordAt (sby s) 1)) 8) ∧ Below w.heap.size w w' := by
  unfold arrV
  have hT' : Hid (Tabs w) := hT
  clear hT
  go_enter Tryd.func79, Tryd.ntmps79
  go_upto_region 2 with (fail)
  obtain ⟨W0, hW0⟩ : ∃ W, Hid (((w.alloc (.cells (arrL .u32 (fun _ => 0) 8).toArray 65)).alloc (.cells (arrL .u8 (fun _ => 0) 8).toArray 93)) = W) := ⟨_, rfl⟩
  have tr0 : Arr W0 .u32 w.heap.size 8 (fun _ => 0) := by rw [← hW0.out]; exact (Arr.new rfl).alloc _
  have tn0 : Arr W0 .u8 (w.heap.size + 1) 8 (fun _ => 0) := by rw [← hW0.out]; exact Arr.new (by simp)
  have hB0 : Below w.heap.size w W0 := by rw [← hW0.out]; (repeat' (first | (with_reducible first | exact Below.refl _ _ | assumption | refine Below.alloc ?_ ?_ _ | refine Below.drew ?_ | refine below_drewN ?_ _ | refine Below.setCell ?_ ?_ _ | refine below_via (by with_reducible assumption) ?_ ?_) | omega | (simp only [szs]; omega) | (simp only [szs] at *; omega)))
  change Code.wp _ _ _ _ ((w.alloc (.cells (arrL .u32 (fun _ => 0) 8).toArray 65)).alloc (.cells (arrL .u8 (fun _ => 0) 8).toArray 93))
  rw [hW0.out]
  clear hW0
  obtain ⟨N, hN⟩ : ∃ N, Hid (w.heap.size = N) := ⟨_, rfl⟩
  rw [hN.out] at tn0 tr0 hB0 ⊢
  have hlN : 5 ≤ N := by have := hT'.out.lt; have := hN.out; omega
  obtain ⟨W1, h1, hW1, tn1, z1⟩ := tn0.copyStr s hs 8 3
  have tr1 : Hid (Arr W1 .u32 N 8 (fun _ => 0)) := by rw [hW1.out]; exact tr0.farCells (by omega) _ _
  have hB1 : Below N w W1 := by rw [hW1.out]; exact below_setCells hB0 (by omega) _ _
  have l1 := tn1.out.lt
  clear hW1 tr0 tn0 hB0 z1
  go_upto_region 4 with (at_builtin; refine Lib.wpList_copy_run _ rfl _ _ 34 9 rfl _ _ rfl rfl h1 ?_)
  obtain ⟨W2, hW2⟩ : ∃ W, Hid (W1.alloc (.cells #[.int .u32 0, .int .u32 0, .int .u32 0, .int .u32 0, .int .u32 0, .int .u32 0, .int .u32 0, .int .u32 0] 65) = W) := ⟨_, rfl⟩
  have th2 : Arr W2 .u32 W1.heap.size 8 (beginI 0) := by rw [← hW2.out, beginI_zero]; exact Arr.new8
  have tn2 : Arr W2 .u8 (N + 1) 8 (sby s) := by rw [← hW2.out]; exact tn1.out.alloc _
  have tr2 : Arr W2 .u32 N 8 (fun _ => 0) := by rw [← hW2.out]; exact tr1.out.alloc _
  have hB2 : Below N w W2 := by rw [← hW2.out]; exact hB1.alloc (by omega) _
  rw [hW2.out]
  obtain ⟨H, hH⟩ : ∃ H, Hid (W1.heap.size = H) := ⟨_, rfl⟩
  rw [hH.out] at th2 l1 ⊢
  clear hW2 hB1 tr1 tn1 hH h1
  go_wp2
  go_loopw [9] (fun s9 wr => ∃ (i : Nat), i ≤ 8 ∧ s9 = .int .i64 (i : Nat) ∧ Hid (Arr wr .u32 H 8 (beginI i)) ∧ Hid (Arr wr .u8 (N + 1) 8 (sby s)) ∧ Hid (Arr wr .u32 N 8 (fun _ => 0)) ∧ Below N w wr) (fun s9 _ => 8 - (intOf s9).toNat)
  case atStart => exact ⟨0, by omega, rfl, th2, tn2, tr2, hB2⟩
  case round =>
    clear th2 tn2 tr2 hB2
    obtain ⟨i, hi, rfl, th, tn, tr, hB⟩ := hrel
    have l0 := hB.size
    by_cases hlt : i < 8
    · have g1 := (hT'.out.below hB hlN).first.c i hlt
      have p2 := th.out.c i hlt
      have p4 := th.out.f i hlt
      have i0 : (i : Int) < 8 := by omega
      have i1 : (0 : Int) ≤ (i : Int) := by omega
      have q := th.out.set (i := i) (z := Ob.first i) hlt
      rw [beginI_succ] at q
      have hB1 : Below N w (wr.setCell ⟨H, i, none⟩ (.int .u32 (Ob.first i : Nat))) := by (repeat' (first | (with_reducible first | exact Below.refl _ _ | assumption | refine Below.alloc ?_ ?_ _ | refine Below.drew ?_ | refine below_drewN ?_ _ | refine Below.setCell ?_ ?_ _ | refine below_via (by with_reducible assumption) ?_ ?_) | omega | (simp only [szs]; omega) | (simp only [szs] at *; omega)))
      go_wp2
      go_roundw
      case rel => exact ⟨i + 1, by omega, by go_num, q, tn.out.far (by omega) _ _, tr.out.far (by omega) _ _, hB1⟩
      case measure => (simp only [intOf, Int.toNat_natCast]; omega)
    · obtain rfl : i = 8 := by omega
      have t0 : Arr wr .u32 H 8 Ob.first := th.out.congr (fun j hj => by unfold beginI; rw [if_pos hj])
      have x0 := xor_u32 (Ob.first 0) 16842784 (Ob.first_lt 0) (by decide)
      obtain ⟨X0, hX0⟩ : ∃ X, Hid (Ob.first 0 ^^^ 16842784 = X) := ⟨_, rfl⟩
      rw [hX0.out] at x0
      have x0' : bits .xor .u32 ((Ob.first 0 : Nat) : Int) 16842784 = (X0 : Int) := x0
      have c0 := t0.c 0 (by decide)
      have f0 := t0.f 0 (by decide)
      go_upto_region 10 with (fail)
      have th1 : Hid (Arr (wr.setCell ⟨H, 0, none⟩ (.int .u32 (X0 : Nat))) .u32 H 8 (Ob.upd Ob.first 0 X0)) := t0.set (by decide)
      have tn1 : Hid (Arr (wr.setCell ⟨H, 0, none⟩ (.int .u32 (X0 : Nat))) .u8 (N + 1) 8 (sby s)) := tn.out.far (by omega) _ _
      have tr1 : Hid (Arr (wr.setCell ⟨H, 0, none⟩ (.int .u32 (X0 : Nat))) .u32 N 8 (fun _ => 0)) := tr.out.far (by omega) _ _
      have hB1 : Below N w (wr.setCell ⟨H, 0, none⟩ (.int .u32 (X0 : Nat))) := by (repeat' (first | (with_reducible first | exact Below.refl _ _ | assumption | refine Below.alloc ?_ ?_ _ | refine Below.drew ?_ | refine below_drewN ?_ _ | refine Below.setCell ?_ ?_ _ | refine below_via (by with_reducible assumption) ?_ ?_) | omega | (simp only [szs]; omega) | (simp only [szs] at *; omega)))
      clear t0 th tn tr hB c0 f0 x0 x0'
      generalize (wr.setCell ⟨H, 0, none⟩ (.int .u32 (X0 : Nat))) = W3 at *
      have hv1 : Hid (Ob.Words32 (Ob.upd Ob.first 0 X0)) := Ob.Words32.upd (fun j => Ob.first_lt j) 0 (by rw [← hX0.out]; exact Ob.xor_lt (Ob.first_lt 0) (by decide))
      have hw1 : Hid (Ob.lowN (sby s) 4 = wordAt (sby s) 0) := lowN_word0 _
      have hw2 : Hid (Ob.lowN (fun i => sby s (4 + i)) 4 = wordAt (sby s) 1) := lowN_word1 _
      have hend : Hid (Ob.open0 (wordAt (sby s) 0) (wordAt (sby s) 1) = Ob.upd (Ob.upd (Ob.upd Ob.first 0 X0) 6 (Ob.upd Ob.first 0 X0 6 ^^^ wordAt (sby s) 0)) 7 (Ob.upd (Ob.upd Ob.first 0 X0) 6 (Ob.upd Ob.first 0 X0 6 ^^^ wordAt (sby s) 0) 7 ^^^ wordAt (sby s) 1)) := by
        rw [← hX0.out]; rfl
      have lw1 : wordAt (sby s) 0 < 4294967296 := by rw [← hw1.out]; exact Ob.lowN_lt (sby_lt s) 4
      have lw2 : wordAt (sby s) 1 < 4294967296 := by rw [← hw2.out]; exact Ob.lowN_lt (fun i => sby_lt s _) 4
      obtain ⟨x, hx⟩ : ∃ x, Hid (wordAt (sby s) 0 = x) := ⟨_, rfl⟩
      obtain ⟨y, hy⟩ : ∃ x, Hid (wordAt (sby s) 1 = x) := ⟨_, rfl⟩
      obtain ⟨V, hV⟩ : ∃ V, Hid (Ob.upd Ob.first 0 X0 = V) := ⟨_, rfl⟩
      rw [hx.out] at hw1 lw1
      rw [hy.out] at hw2 lw2
      rw [hx.out, hy.out, hV.out] at hend
      rw [hV.out] at hv1 th1
      have xw1 := xor_u32 (V 6) x (hv1.out _) lw1
      obtain ⟨X1, hX1⟩ : ∃ X, Hid (V 6 ^^^ x = X) := ⟨_, rfl⟩
      rw [hX1.out] at xw1
      have p1 := th1.out.drew.c 6 (by decide)
      have c1 := th1.out.c 6 (by decide)
      have f1 := th1.out.f 6 (by decide)
      have y1 : Hid (Bys W3.drew (N + 1) 0 4 (sby s)) := ⟨tn1.out.drew.lt, fun j hj => by have := tn1.out.drew.c (0 + j) (by omega); simpa using this⟩
      have cw1 := wordW (N + 1) 0 8 (sby s) (fun j => sby_lt s _) W3.drew y1.out
      rw [hw1.out] at cw1
      go_upto_region 10 with (fail)
      refine wp_region_noPanic ?_
      refine region_lastly (S := (fun w' => w'.cell? ⟨H, 6, none⟩ = some (.int .u32 (V 6 : Nat)))) [6] (by kernel_rfl) (by ((try dsimp only); (exact p1))) (fun hHeld => ?_)
      refine anyZ_free (i := 0) (oi := ?oi_1) (v := ?v_1) ?hi_1 ?hs_1 ?hf_1 ?hr_1 ?hQ_1 (Or.inl ⟨?hw_1, ?hy_1⟩) ?hrest_1
      case hi_1 => (simp only [List.getElem?_toArray, List.getElem?_cons_succ, List.getElem?_cons_zero]; exact rfl)
      case hs_1 => kernel_rfl
      case hf_1 => kernel_rfl
      case hr_1 => kernel_rfl
      case hQ_1 => exact fun _ _ _ h => h
      case hw_1 => rfl
      case hy_1 => (intro w _; go_simp; try with_reducible rfl)
      try simp only [Act.put, List.setIfInBounds_toArray, List.set_cons_zero, List.set_cons_succ]
      refine anyZ_take (i := 1) (oi := ?oi_2) (v := ?v_2) ?hi_2 ?hz_2 ?hs_2 ?hf_2 ?hr_2 ?hQ_2 (Or.inl ⟨?hw_2, ?hy_2⟩) ?hS_2 ?hrest_2
      case hi_2 => (simp only [List.getElem?_toArray, List.getElem?_cons_succ, List.getElem?_cons_zero]; exact rfl)
      case hz_2 => kernel_rfl
      case hs_2 => kernel_rfl
      case hf_2 => kernel_rfl
      case hr_2 => kernel_rfl
      case hQ_2 => exact fun _ _ _ h => h
      case hw_2 => rfl
      case hS_2 => assumption
      case hy_2 => (intro w hSw; (try dsimp only at hSw); go_simp; try with_reducible rfl)
      try simp only [Act.put, List.setIfInBounds_toArray, List.set_cons_zero, List.set_cons_succ]
      refine anyZ_free (i := 2) (oi := ?oi_3) (v := ?v_3) ?hi_3 ?hs_3 ?hf_3 ?hr_3 ?hQ_3 (Or.inl ⟨?hw_3, ?hy_3⟩) ?hrest_3
      case hi_3 => (simp only [List.getElem?_toArray, List.getElem?_cons_succ, List.getElem?_cons_zero]; exact rfl)
      case hs_3 => kernel_rfl
      case hf_3 => kernel_rfl
      case hr_3 => kernel_rfl
      case hQ_3 => exact fun _ _ _ h => h
      case hw_3 => rfl
      case hy_3 => (intro w _; go_simp; try with_reducible rfl)
      try simp only [Act.put, List.setIfInBounds_toArray, List.set_cons_zero, List.set_cons_succ]
      refine anyZ_ready (rs := [3]) (by kernel_rfl) (by simp) ?_
      refine (AllZ.cons (o := ?o_4) ?ho_4 (fun K hK => ?st_4) AllZ.nil)
      case ho_4 => (simp only [List.getElem?_toArray, List.getElem?_cons_succ, List.getElem?_cons_zero]; exact rfl)
      case st_4 =>
        go_simp
        (go_at_call 83; with_reducible refine cw1.mono ?_; rintro e w' ⟨rfl, rfl⟩)
        refine hK.out _ _ (by ((try dsimp only); (exact p1))) (fun hHeld => ?_)
        clear hK K
        try simp only [Act.put, List.setIfInBounds_toArray, List.set_cons_zero, List.set_cons_succ]
        refine anyZ_free (i := 4) (oi := ?oi_5) (v := ?v_5) ?hi_5 ?hs_5 ?hf_5 ?hr_5 ?hQ_5 (Or.inl ⟨?hw_5, ?hy_5⟩) ?hrest_5
        case hi_5 => (simp only [List.getElem?_toArray, List.getElem?_cons_succ, List.getElem?_cons_zero]; exact rfl)
        case hs_5 => kernel_rfl
        case hf_5 => kernel_rfl
        case hr_5 => kernel_rfl
        case hQ_5 => exact fun _ _ _ h => h
        case hw_5 => rfl
        case hy_5 => (intro w _; go_simp; try with_reducible rfl)
        try simp only [Act.put, List.setIfInBounds_toArray, List.set_cons_zero, List.set_cons_succ]
        refine anyZ_free (i := 5) (oi := ?oi_6) (v := ?v_6) ?hi_6 ?hs_6 ?hf_6 ?hr_6 ?hQ_6 (Or.inl ⟨?hw_6, ?hy_6⟩) ?hrest_6
        case hi_6 => (simp only [List.getElem?_toArray, List.getElem?_cons_succ, List.getElem?_cons_zero]; exact rfl)
        case hs_6 => kernel_rfl
        case hf_6 => kernel_rfl
        case hr_6 => kernel_rfl
        case hQ_6 => exact fun _ _ _ h => h
        case hw_6 => rfl
        case hy_6 => (intro w _; go_simp; try with_reducible rfl)
        try simp only [Act.put, List.setIfInBounds_toArray, List.set_cons_zero, List.set_cons_succ]
        refine anyZ_ready (rs := [6]) (by kernel_rfl) (by simp) ?_
        refine (AllZ.last (o := ?o_7) ?ho_7 (by rfl) (fun K hK => ?st_7) AllZ.nil)
        case ho_7 => (simp only [List.getElem?_toArray, List.getElem?_cons_succ, List.getElem?_cons_zero]; exact rfl)
        case st_7 =>
          go_simp
          refine hK.out _ _ ?_
          clear hK K
          try simp only [Act.put, List.setIfInBounds_toArray, List.set_cons_zero, List.set_cons_succ]
          refine anyZ_done (by kernel_rfl) ?_ _
          refine NoPanic.normal ?_
          have th2 : Hid (Arr ((W3.setCell ⟨H, 6, none⟩ (.int .u32 (X1 : Nat))).drew) .u32 H 8 (Ob.upd (V) 6 X1)) := (th1.out.set (i := 6) (z := X1) (by decide)).drew
          have tn2 : Hid (Arr ((W3.setCell ⟨H, 6, none⟩ (.int .u32 (X1 : Nat))).drew) .u8 (N + 1) 8 (sby s)) := (tn1.out.far (by omega) _ _).drew
          have tr2 : Hid (Arr ((W3.setCell ⟨H, 6, none⟩ (.int .u32 (X1 : Nat))).drew) .u32 N 8 (fun _ => 0)) := (tr1.out.far (by omega) _ _).drew
          have hB2 : Below N w ((W3.setCell ⟨H, 6, none⟩ (.int .u32 (X1 : Nat))).drew) := by (repeat' (first | (with_reducible first | exact Below.refl _ _ | assumption | refine Below.alloc ?_ ?_ _ | refine Below.drew ?_ | refine below_drewN ?_ _ | refine Below.setCell ?_ ?_ _ | refine below_via (by with_reducible assumption) ?_ ?_) | omega | (simp only [szs]; omega) | (simp only [szs] at *; omega)))
          clear hHeld th1 tn1 tr1 hB1 p1 c1 f1 y1 cw1 xw1
          generalize ((W3.setCell ⟨H, 6, none⟩ (.int .u32 (X1 : Nat))).drew) = W4 at *
          have hv2 : Hid (Ob.Words32 (Ob.upd V 6 X1)) := hv1.out.upd 6 (by rw [← hX1.out]; exact Ob.xor_lt (hv1.out _) lw1)
          rw [hX1.out] at hend
          obtain ⟨V', hV'⟩ : ∃ V', Hid (Ob.upd V 6 X1 = V') := ⟨_, rfl⟩
          rw [hV'.out] at hend hv2 th2
          have xw2 := xor_u32 (V' 7) y (hv2.out _) lw2
          obtain ⟨X2, hX2⟩ : ∃ X, Hid (V' 7 ^^^ y = X) := ⟨_, rfl⟩
          rw [hX2.out] at xw2
          have p2 := th2.out.drew.c 7 (by decide)
          have c2 := th2.out.c 7 (by decide)
          have f2 := th2.out.f 7 (by decide)
          have y2 : Hid (Bys W4.drew (N + 1) 4 4 (fun i => sby s (4 + i))) := ⟨tn2.out.drew.lt, fun j hj => by have := tn2.out.drew.c (4 + j) (by omega); simpa using this⟩
          have cw2 := wordW (N + 1) 4 4 (fun i => sby s (4 + i)) (fun j => sby_lt s _) W4.drew y2.out
          rw [hw2.out] at cw2
          go_upto_region 11 with (fail)
          refine wp_region_noPanic ?_
          refine region_lastly (S := (fun w' => w'.cell? ⟨H, 7, none⟩ = some (.int .u32 (V' 7 : Nat)))) [6] (by kernel_rfl) (by ((try dsimp only); (exact p2))) (fun hHeld => ?_)
          refine anyZ_free (i := 0) (oi := ?oi_8) (v := ?v_8) ?hi_8 ?hs_8 ?hf_8 ?hr_8 ?hQ_8 (Or.inl ⟨?hw_8, ?hy_8⟩) ?hrest_8
          case hi_8 => (simp only [List.getElem?_toArray, List.getElem?_cons_succ, List.getElem?_cons_zero]; exact rfl)
          case hs_8 => kernel_rfl
          case hf_8 => kernel_rfl
          case hr_8 => kernel_rfl
          case hQ_8 => exact fun _ _ _ h => h
          case hw_8 => rfl
          case hy_8 => (intro w _; go_simp; try with_reducible rfl)
          try simp only [Act.put, List.setIfInBounds_toArray, List.set_cons_zero, List.set_cons_succ]
          refine anyZ_take (i := 1) (oi := ?oi_9) (v := ?v_9) ?hi_9 ?hz_9 ?hs_9 ?hf_9 ?hr_9 ?hQ_9 (Or.inl ⟨?hw_9, ?hy_9⟩) ?hS_9 ?hrest_9
          case hi_9 => (simp only [List.getElem?_toArray, List.getElem?_cons_succ, List.getElem?_cons_zero]; exact rfl)
          case hz_9 => kernel_rfl
          case hs_9 => kernel_rfl
          case hf_9 => kernel_rfl
          case hr_9 => kernel_rfl
          case hQ_9 => exact fun _ _ _ h => h
          case hw_9 => rfl
          case hS_9 => assumption
          case hy_9 => (intro w hSw; (try dsimp only at hSw); go_simp; try with_reducible rfl)
          try simp only [Act.put, List.setIfInBounds_toArray, List.set_cons_zero, List.set_cons_succ]
          refine anyZ_free (i := 2) (oi := ?oi_10) (v := ?v_10) ?hi_10 ?hs_10 ?hf_10 ?hr_10 ?hQ_10 (Or.inl ⟨?hw_10, ?hy_10⟩) ?hrest_10
          case hi_10 => (simp only [List.getElem?_toArray, List.getElem?_cons_succ, List.getElem?_cons_zero]; exact rfl)
          case hs_10 => kernel_rfl
          case hf_10 => kernel_rfl
          case hr_10 => kernel_rfl
          case hQ_10 => exact fun _ _ _ h => h
          case hw_10 => rfl
          case hy_10 => (intro w _; go_simp; try with_reducible rfl)
          try simp only [Act.put, List.setIfInBounds_toArray, List.set_cons_zero, List.set_cons_succ]
          refine anyZ_ready (rs := [3]) (by kernel_rfl) (by simp) ?_
          refine (AllZ.cons (o := ?o_11) ?ho_11 (fun K hK => ?st_11) AllZ.nil)
          case ho_11 => (simp only [List.getElem?_toArray, List.getElem?_cons_succ, List.getElem?_cons_zero]; exact rfl)
          case st_11 =>
            go_simp
            (go_at_call 83; with_reducible refine cw2.mono ?_; rintro e w' ⟨rfl, rfl⟩)
            refine hK.out _ _ (by ((try dsimp only); (exact p2))) (fun hHeld => ?_)
            clear hK K
            try simp only [Act.put, List.setIfInBounds_toArray, List.set_cons_zero, List.set_cons_succ]
            refine anyZ_free (i := 4) (oi := ?oi_12) (v := ?v_12) ?hi_12 ?hs_12 ?hf_12 ?hr_12 ?hQ_12 (Or.inl ⟨?hw_12, ?hy_12⟩) ?hrest_12
            case hi_12 => (simp only [List.getElem?_toArray, List.getElem?_cons_succ, List.getElem?_cons_zero]; exact rfl)
            case hs_12 => kernel_rfl
            case hf_12 => kernel_rfl
            case hr_12 => kernel_rfl
            case hQ_12 => exact fun _ _ _ h => h
            case hw_12 => rfl
            case hy_12 => (intro w _; go_simp; try with_reducible rfl)
            try simp only [Act.put, List.setIfInBounds_toArray, List.set_cons_zero, List.set_cons_succ]
            refine anyZ_free (i := 5) (oi := ?oi_13) (v := ?v_13) ?hi_13 ?hs_13 ?hf_13 ?hr_13 ?hQ_13 (Or.inl ⟨?hw_13, ?hy_13⟩) ?hrest_13
            case hi_13 => (simp only [List.getElem?_toArray, List.getElem?_cons_succ, List.getElem?_cons_zero]; exact rfl)
            case hs_13 => kernel_rfl
            case hf_13 => kernel_rfl
            case hr_13 => kernel_rfl
            case hQ_13 => exact fun _ _ _ h => h
            case hw_13 => rfl
            case hy_13 => (intro w _; go_simp; try with_reducible rfl)
            try simp only [Act.put, List.setIfInBounds_toArray, List.set_cons_zero, List.set_cons_succ]
            refine anyZ_ready (rs := [6]) (by kernel_rfl) (by simp) ?_
            refine (AllZ.last (o := ?o_14) ?ho_14 (by rfl) (fun K hK => ?st_14) AllZ.nil)
            case ho_14 => (simp only [List.getElem?_toArray, List.getElem?_cons_succ, List.getElem?_cons_zero]; exact rfl)
            case st_14 =>
              go_simp
              refine hK.out _ _ ?_
              clear hK K
              try simp only [Act.put, List.setIfInBounds_toArray, List.set_cons_zero, List.set_cons_succ]
              refine anyZ_done (by kernel_rfl) ?_ _
              refine NoPanic.normal ?_
              have th3 : Hid (Arr ((W4.setCell ⟨H, 7, none⟩ (.int .u32 (X2 : Nat))).drew) .u32 H 8 (Ob.upd (V') 7 X2)) := (th2.out.set (i := 7) (z := X2) (by decide)).drew
              have tn3 : Hid (Arr ((W4.setCell ⟨H, 7, none⟩ (.int .u32 (X2 : Nat))).drew) .u8 (N + 1) 8 (sby s)) := (tn2.out.far (by omega) _ _).drew
              have tr3 : Hid (Arr ((W4.setCell ⟨H, 7, none⟩ (.int .u32 (X2 : Nat))).drew) .u32 N 8 (fun _ => 0)) := (tr2.out.far (by omega) _ _).drew
              have hB3 : Below N w ((W4.setCell ⟨H, 7, none⟩ (.int .u32 (X2 : Nat))).drew) := by (repeat' (first | (with_reducible first | exact Below.refl _ _ | assumption | refine Below.alloc ?_ ?_ _ | refine Below.drew ?_ | refine below_drewN ?_ _ | refine Below.setCell ?_ ?_ _ | refine below_via (by with_reducible assumption) ?_ ?_) | omega | (simp only [szs]; omega) | (simp only [szs] at *; omega)))
              clear hHeld th2 tn2 tr2 hB2 p2 c2 f2 y2 cw2 xw2
              generalize ((W4.setCell ⟨H, 7, none⟩ (.int .u32 (X2 : Nat))).drew) = W5 at *
              rw [hX2.out] at hend
              rw [← hend.out, ← hx.out, ← hy.out] at th3
              clear hend hV hV' hX0 hX1 hX2 hv1 hv2 hw1 hw2 lw1 lw2 hx hy
              go_upto_region 12 with (fail)
              go_wp2_with (first | ((with_reducible refine wpList_loadLit th3.out ?_ Tryd.underlying65 ?_ ?_ ?_); (focus rfl); (focus rfl); (focus kernel_rfl); simp only [Act.put, List.setIfInBounds_toArray, List.set_cons_zero, List.set_cons_succ]) | ((with_reducible refine wpList_storeLit (Ob.open0 (wordAt (sby s) 0) (wordAt (sby s) 1)) tr3.out ?_ ?_ ?_ ?_); (focus rfl); (focus rfl); (focus kernel_rfl); intro W6 hW6_ tW6_ zW6_; try simp only [Act.put, List.setIfInBounds_toArray, List.set_cons_zero, List.set_cons_succ]))
              have hB5 : Below w.heap.size w W6 := by rw [hW6_.out, hN.out]; exact below_setCells hB3 (by omega) _ _
              have rv := tW6_.out.loadVar Tryd.underlying65 rfl (by kernel_rfl)
              exact bodyPost_ret (v := .agg (arrL .u32 (Ob.open0 (wordAt (sby s) 0) (wordAt (sby s) 1)) 8).toArray) (by simp [results, Tryd.results79, asAddr, rv]) rfl ⟨rfl, hB5⟩
end Go.Proofs.YtdhbkhmknnlmnaaDoor
