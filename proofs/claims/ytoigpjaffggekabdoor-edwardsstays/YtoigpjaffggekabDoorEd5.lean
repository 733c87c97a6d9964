/-
  The Edwards curve: the first point is of order S; 4 S times any point is 0.
-/
import Derived.Test.YtoigpjaffggekabDoorEd4
namespace Ob
set_option linter.unusedVariables false
set_option linter.unusedSimpArgs false

abbrev SE : Nat := 72057593894066549
theorem prime67 : Prime 67 := prime_of_trial 67 9 (by decide) (by decide) (by decide +kernel)
theorem prime317 : Prime 317 := prime_of_trial 317 18 (by decide) (by decide) (by decide +kernel)
theorem prime57251 : Prime 57251 := prime_of_trial 57251 240 (by decide) (by decide) (by decide +kernel)
theorem prime14815033 : Prime 14815033 := prime_of_trial 14815033 3850 (by decide +kernel) (by decide +kernel) (by decide +kernel)
theorem S_sub : SE - 1 = 2 ^ 2 * 67 * 317 * 57251 * 14815033 := by decide +kernel
theorem lucasS : Lucas SE 2 where
  two := by decide +kernel
  one := pow_of_powm (by decide +kernel) (by decide +kernel)
  ne := by
    intro q hq hd
    rw [S_sub] at hd
    have h : q = 2 ∨ q = 67 ∨ q = 317 ∨ q = 57251 ∨ q = 14815033 := by
      rcases hq.dvd_mul hd with hd | hd
      · rcases hq.dvd_mul hd with hd | hd
        · rcases hq.dvd_mul hd with hd | hd
          · rcases hq.dvd_mul hd with hd | hd
            · exact Or.inl (hq.eq_of_dvd prime2 (hq.dvd_pow hd))
            · exact Or.inr (Or.inl (hq.eq_of_dvd prime67 hd))
          · exact Or.inr (Or.inr (Or.inl (hq.eq_of_dvd prime317 hd)))
        · exact Or.inr (Or.inr (Or.inr (Or.inl (hq.eq_of_dvd prime57251 hd))))
      · exact Or.inr (Or.inr (Or.inr (Or.inr (hq.eq_of_dvd prime14815033 hd))))
    have ne : ∀ k, (SE - 1) / k < 2 ^ 64 → powm SE 64 2 ((SE - 1) / k) ≠ 1 → 2 ^ ((SE - 1) / k) % SE ≠ 1 := fun k h1 h2 h3 => h2 (by rw [powm_eq SE 64 2 _ h1]; exact h3)
    rcases h with h | h | h | h | h
    all_goals
      subst h
      exact ne _ (by decide +kernel) (by decide +kernel)
theorem primeS : Prime SE := lucasS.prime

/-! The first point, doubled and added -/
def gGen : Ep := (223588670687113535, 82055451961885530)
theorem onG_gen : onG gGen := by show (82055451961885530 : Fin RE) * 82055451961885530 = 1 + 223588670687113535 * 223588670687113535 + 439 * (223588670687113535 * 223588670687113535 * (82055451961885530 * 82055451961885530)); decide +kernel
/-- Is t the sum of two points? (To be reckoned.) -/
def isSum (u v t : Ep) : Bool := t.1 * (1 + gk u v) == u.1 * v.2 + u.2 * v.1 && t.2 * (1 - gk u v) == u.2 * v.2 + u.1 * v.1
theorem isSum_add {u v t : Ep} (hu : onG u) (hv : onG v) (h : isSum u v t = true) : gadd u v = t := by
  unfold isSum at h
  rw [Bool.and_eq_true, beq_iff_eq, beq_iff_eq] at h
  exact Gsum_unique hu hv (Gsum_add hu hv) h
/-- A walk from the highest bit on: each row the double and, where the bit is 1, the sum with the first point. -/
def chk : Ep → List (Ep × Option Ep) → Ep → Bool
  | p, [], e => p == e
  | p, (q, none) :: l, e => isSum p p q && chk q l e
  | p, (q, some r) :: l, e => isSum p p q && isSum q gGen r && chk r l e
def chkN : Nat → List (Ep × Option Ep) → Nat
  | n, [] => n
  | n, (_, none) :: l => chkN (2 * n) l
  | n, (_, some _) :: l => chkN (2 * n + 1) l
theorem chk_mul : ∀ (l : List (Ep × Option Ep)) (p e : Ep) (n : Nat), gmul gGen n = p → chk p l e = true → gmul gGen (chkN n l) = e
  | [], p, e, n, hp, h => by
    unfold chk at h
    rw [beq_iff_eq] at h
    show gmul gGen n = e
    rw [hp, h]
  | (q, none) :: l, p, e, n, hp, h => by
    unfold chk at h
    rw [Bool.and_eq_true] at h
    have hon : onG p := hp ▸ onG_mul onG_gen n
    refine chk_mul l q e (2 * n) ?_ h.2
    rw [show 2 * n = n + n by omega, gmul_add onG_gen, hp]
    exact isSum_add hon hon h.1
  | (q, some r) :: l, p, e, n, hp, h => by
    unfold chk at h
    rw [Bool.and_eq_true, Bool.and_eq_true] at h
    have hon : onG p := hp ▸ onG_mul onG_gen n
    have e1 : gmul gGen (2 * n) = q := by
      rw [show 2 * n = n + n by omega, gmul_add onG_gen, hp]
      exact isSum_add hon hon h.1.1
    refine chk_mul l r e (2 * n + 1) ?_ h.2
    show gadd (gmul gGen (2 * n)) gGen = r
    have hq : onG q := e1 ▸ onG_mul onG_gen _
    rw [e1]
    exact isSum_add hq onG_gen h.1.2
def genRows : List (Ep × Option Ep) := [((215313104986860010, 182547805408397888), some (137793467179215122, 116235547721284618)), ((170317750279325719, 34670886643523254), some (252582691122900600, 251385050685503184)), ((247926893226952788, 168895567628064189), some (38124488070607937, 51197260139713676)), ((224485540305499475, 149489825702233031), some (39811595967729766, 213931579236519217)), ((123213619262012489, 47212235094765880), some (185206689396785223, 101319579035791570)), ((22042517405029254, 231186499481089032), some (250403946215291460, 97881651140171071)), ((176311690358610639, 77891349406648079), some (281460914275521354, 91990006374410385)), ((146080706815614832, 273483273053652661), some (110984812530433696, 204801505181883256)), ((141614863265849512, 136378954256596218), some (215754066012529874, 146872247862241090)), ((55080701174846009, 203334564428798386), some (118859373834926922, 179683276363721181)), ((161567363734772421, 250505779753349651), some (244896956301849774, 140710756062607636)), ((10391725747671709, 91612661375988500), some (52475736343698312, 237041389374839392)), ((2495212106157874, 251796509324935624), some (141410109812936162, 105236895077398087)), ((26767092443094691, 190388310876061676), some (19144510057788503, 212541364511528590)), ((235549395840195075, 283050734091825947), some (280014741002143856, 43444992624292836)), ((189217925228284548, 108897433649210086), some (242171169931519272, 100998049029756700)), ((179951434884853881, 37832380704445023), some (199821323881336996, 255059490964745996)), ((162852455508667164, 233264566906229983), some (45544186477517093, 151777488142700673)), ((187537097320717849, 119621405571752163), some (71561206993417521, 7280499292541923)), ((272756371256911801, 119214672176428243), some (111797133120816477, 166512544969220913)), ((236348718683982560, 92790003435887833), some (212987838471544997, 216061922420791731)), ((62363869421782793, 198653416360106449), some (22461095061867375, 147402757276516603)), ((72918566480997368, 73749633741772723), some (197295949494554537, 183585268537190235)), ((184577754754004649, 155756462375362852), some (169667098458170022, 68508860876689537)), ((178703837680662782, 20031625097404699), some (5827227359692351, 73047367685206042)), ((153745732264660709, 74189550035914868), some (21037802086533738, 15245259410897481)), ((59630042852466127, 148298061306787111), some (232848509575103009, 71776234500639568)), ((120358349233594524, 166691265164299890), none), ((39659936328836640, 183441566438203688), some (51238715347129739, 211533194032784038)), ((142643654498095447, 202278125514474615), some (73422190601644435, 198217522438261579)), ((172955864417556541, 212738914445881005), some (190998904101557839, 103198946546068656)), ((52782770539921610, 208943211345735028), none), ((249613780951124875, 239138827817555504), some (90562847333659085, 83765937641729505)), ((43893718665270902, 214747889618285129), some (27458231121853464, 280863975840921913)), ((190612471176197922, 244925925575431398), none), ((2828280512565373, 15749671383264935), some (14508079584920847, 100249537115564803)), ((227959080549803748, 55579466088836995), some (185415132377444258, 10650555306855857)), ((151742624243187719, 171610711199658122), none), ((124434845760531856, 239033492630421330), none), ((90365935557119977, 262760647737560290), some (237569889562835853, 184410742891296946)), ((102138912243981590, 153491116391842058), some (185090025423327152, 237771980720297492)), ((89490364885984354, 60859707086337439), none), ((152769945632781913, 142888533143164447), some (203439815992749, 71244376888951031)), ((41152493024319430, 206881888022184845), some (206286837005120746, 32416465798426787)), ((212873934810239030, 50119981849391368), none), ((114835514102307115, 284339108330849671), none), ((120575154038271208, 140013935041591056), some (38609121784821140, 241215127176351080)), ((205672532209498366, 179719883246236387), none), ((258630834119261086, 16217074414626969), some (201520709558167018, 218908679295776723)), ((264324037548118259, 163727798564629242), some (109759202150961139, 210231654217883637)), ((74215259634877108, 156412314412808121), some (78561132449989528, 267302516294211788)), ((143924424767807043, 163987702738026459), none), ((228572233067488096, 204381460596954541), some (50712362355641072, 2)), ((88234739724193906, 47203778514800504), none), ((64641705600650946, 82055451961885530), some (0, 1))]
set_option maxRecDepth 100000 in
theorem gen_rows : chk gGen genRows gzero = true := by decide +kernel
theorem gen_count : chkN 1 genRows = SE := by decide +kernel
theorem gen_S : gmul gGen SE = gzero := by
  have h := chk_mul genRows gGen gzero 1 (gmul_one onG_gen) gen_rows
  rwa [gen_count] at h
theorem gen_ne : gGen ≠ gzero := by decide +kernel

/-! Four points whose double is 0, or whose double's is -/
def gFour : Ep := (gi, 0)
theorem onG_four : onG gFour := by show (0 : Fin RE) * 0 = 1 + gi * gi + 439 * (gi * gi * (0 * 0)); decide +kernel
theorem four_two : gmul gFour 2 = (0, -1) := by
  rw [gmul_two onG_four]
  exact isSum_add onG_four onG_four (by decide +kernel)
theorem onG_minus : onG (0, -1) := by show (-1 : Fin RE) * -1 = 1 + 0 * 0 + 439 * (0 * 0 * (-1 * -1)); decide +kernel
theorem four_four : gmul gFour 4 = gzero := by
  rw [show (4 : Nat) = 2 * 2 from rfl, ← gmul_mul onG_four, four_two, gmul_two onG_minus]
  exact isSum_add onG_minus onG_minus (by decide +kernel)
theorem four_div {N : Nat} (h : gmul gFour N = gzero) : 4 ∣ N := by
  have hg := gmul_gcd onG_four 4 N four_four h
  have hd : Nat.gcd 4 N ∣ 4 := Nat.gcd_dvd_left 4 N
  have hn : Nat.gcd 4 N ∣ N := Nat.gcd_dvd_right 4 N
  have hle := Nat.le_of_dvd (by decide) hd
  have hpos := Nat.pos_of_dvd_of_pos hd (by decide)
  generalize Nat.gcd 4 N = k at *
  have hk : k = 1 ∨ k = 2 ∨ k = 3 ∨ k = 4 := by omega
  rcases hk with rfl | rfl | rfl | rfl
  · rw [gmul_one onG_four] at hg; exact absurd hg (by decide +kernel)
  · rw [four_two] at hg; exact absurd hg (by decide +kernel)
  · exact absurd hd (by decide)
  · exact hn
theorem gen_div {N : Nat} (h : gmul gGen N = gzero) : SE ∣ N := by
  have hg := gmul_gcd onG_gen SE N gen_S h
  rcases primeS.2 _ (Nat.gcd_dvd_left SE N) with h1 | h1
  · rw [h1, gmul_one onG_gen] at hg
    exact absurd hg gen_ne
  · rw [← h1]; exact Nat.gcd_dvd_right SE N
/-- 8 S times any point is 0. -/
theorem eight_S {u : Ep} (hu : onG u) : gmul u (8 * SE) = gzero := by
  obtain ⟨L, nd, on, hl⟩ := all_points
  have hN := fun {a : Ep} (ha : onG a) => gorder_of L nd on ha
  have hpos : 0 < L.length := List.length_pos_of_mem ((on gzero).1 onG_zero)
  obtain ⟨a, ha⟩ := four_div (hN onG_four)
  obtain ⟨b, hb⟩ := gen_div (hN onG_gen)
  have hm : ∃ m, L.length = 4 * SE * m := by
    have e : 4 * a = SE * b := by rw [← ha, ← hb]
    exact ⟨b / 4, by rw [hb]; have : (4 : Nat) ∣ b := by (have : SE * b % 4 = b % 4 := by (rw [Nat.mul_mod, show SE % 4 = 1 from by decide +kernel, Nat.one_mul, Nat.mod_mod])); omega
                     obtain ⟨c, rfl⟩ := this; rw [Nat.mul_div_cancel_left c (by decide), Nat.mul_comm 4 SE, Nat.mul_assoc]⟩
  obtain ⟨m, hm⟩ := hm
  have hu0 := hN hu
  rw [hm] at hu0 hl hpos
  have hm2 : m = 1 ∨ m = 2 := by
    have h1 : 4 * 72057593894066549 * m ≤ 2 * 288230376287764481 := hl
    have h2 : 0 < 4 * 72057593894066549 * m := hpos
    omega
  rcases hm2 with rfl | rfl
  · rw [show 8 * SE = 4 * SE * 1 * 2 by omega, ← gmul_mul hu, hu0, gmul_zero]
  · rw [show 8 * SE = 4 * SE * 2 by omega]; exact hu0
theorem two_zero {u : Ep} (hu : onG u) (h : gadd u u = gzero) : u = gzero ∨ u = (0, -1) := by
  have hs := Gsum_add hu hu
  rw [h] at hs
  have hn := gadd_neg hu
  have e : u = gneg u := gadd_left hu hu (onG_neg hu) (h.trans hn.symm)
  have hx : u.1 = 0 := by
    have e1 : u.1 = 0 - u.1 := congrArg Prod.fst e
    generalize u.1 = x at e1
    have : (2 : Fin RE) * x = 0 := by clear hu hs hn e h; grobner
    rcases Gmul_zero this with h | h
    · exact absurd h g2_ne
    · exact h
  obtain ⟨x, y⟩ := u
  dsimp only at hx
  subst hx
  have hy : y * y = 1 := by
    have h0 : y * y = 1 + 0 * 0 + 439 * (0 * 0 * (y * y)) := hu
    generalize (439 : Fin RE) = d at h0
    clear hs hn e h hu
    grobner
  have : (y - 1) * (y + 1) = 0 := by clear hs hn e h hu; grobner
  rcases Gmul_zero this with h | h
  · left; show (0, y) = ((0 : Fin RE), (1 : Fin RE)); rw [show y = 1 by clear hs hn e hu; grobner]
  · right; rw [show y = -1 by clear hs hn e hu; grobner]
/-- No point's double is one of the two whose double is (0, -1). -/
theorem half_none {u : Ep} (hu : onG u) : (gadd u u).2 ≠ 0 := fun h => by
  have hs := (Gsum_add hu hu).2
  rw [h] at hs
  have h1 : u.2 * u.2 = 1 + u.1 * u.1 + 439 * (u.1 * u.1 * (u.2 * u.2)) := hu
  have dn := d1_nosq (439 * (u.1 * u.1) - 1)
  apply dn
  clear dn h hu
  generalize u.1 = x at *
  generalize u.2 = y at *
  generalize gk u u = k at *
  have e440 : (440 : Fin RE) = 439 + 1 := by decide +kernel
  rw [e440]
  generalize (439 : Fin RE) = d at *
  clear e440
  grobner
theorem two_minus {u : Ep} (hu : onG u) (h : gadd u u = (0, -1)) : u.2 = 0 := by
  have hs := Gsum_add hu hu
  rw [h] at hs
  obtain ⟨s1, s2⟩ := hs
  have h1 : u.2 * u.2 = 1 + u.1 * u.1 + 439 * (u.1 * u.1 * (u.2 * u.2)) := hu
  have hk : gk u u = 439 * (u.1 * u.1 * (u.2 * u.2)) := rfl
  generalize gk u u = k at *
  dsimp only at s1 s2
  have hxy : u.1 * u.2 = 0 := by
    generalize u.1 = x at *; generalize u.2 = y at *
    have : (2 : Fin RE) * (x * y) = 0 := by clear s2 h1 hk hu h; grobner
    rcases Gmul_zero this with h | h
    · exact absurd h g2_ne
    · exact h
  rcases Gmul_zero hxy with hx | hy
  · exfalso
    generalize u.1 = x at *; generalize u.2 = y at *
    subst hx
    have : (2 : Fin RE) = 0 := by
      generalize (439 : Fin RE) = d at *
      clear s1 hxy hu h
      grobner
    exact g2_ne this
  · exact hy
/-- 4 S times any point is 0. -/
theorem four_S {u : Ep} (hu : onG u) : gmul u (4 * SE) = gzero := by
  have hq := onG_mul hu SE
  have e8 : gadd (gmul (gmul u SE) 4) (gmul (gmul u SE) 4) = gzero := by
    rw [← gmul_add hq, gmul_mul hu, show SE * (4 + 4) = 8 * SE by omega]
    exact eight_S hu
  rw [show 4 * SE = SE * 4 by omega, ← gmul_mul hu]
  rcases two_zero (onG_mul hq 4) e8 with h | h
  · exact h
  · exfalso
    have e2 : gadd (gmul (gmul u SE) 2) (gmul (gmul u SE) 2) = (0, -1) := by rw [← gmul_add hq]; exact h
    have hy := two_minus (onG_mul hq 2) e2
    rw [gmul_two hq] at hy
    exact half_none hq hy
/-- Four times a point is of order S. -/
theorem S_four {u : Ep} (hu : onG u) : gmul (gmul u 4) SE = gzero := by rw [gmul_mul hu]; exact four_S hu
/-- Four times a point is 0 just if a coordinate is. -/
theorem four_zero {u : Ep} (hu : onG u) : gmul u 4 = gzero ↔ u.1 = 0 ∨ u.2 = 0 := by
  have e4 : gmul u 4 = gadd (gadd u u) (gadd u u) := by rw [show (4 : Nat) = 2 * 2 from rfl, ← gmul_mul hu, gmul_two hu, gmul_two (onG_add hu hu)]
  rw [e4]
  constructor
  · intro h
    rcases two_zero (onG_add hu hu) h with h1 | h1
    · rcases two_zero hu h1 with h2 | h2
      · left; rw [h2]; rfl
      · left; rw [h2]
    · right; exact two_minus hu h1
  · intro h
    have h1 : u.2 * u.2 = 1 + u.1 * u.1 + 439 * (u.1 * u.1 * (u.2 * u.2)) := hu
    rcases h with h | h
    · have hd : gadd u u = gzero := by
        refine Gsum_unique hu hu (Gsum_add hu hu) ?_
        unfold Gsum gk gzero
        dsimp only
        generalize u.1 = x at *; generalize u.2 = y at *; generalize (439 : Fin RE) = d at *
        clear hu e4
        constructor <;> grobner
      rw [hd, gadd_zero onG_zero]
    · have hd : gadd u u = (0, -1) := by
        refine Gsum_unique hu hu (Gsum_add hu hu) ?_
        unfold Gsum gk
        dsimp only
        generalize u.1 = x at *; generalize u.2 = y at *; generalize (439 : Fin RE) = d at *
        clear hu e4
        constructor <;> grobner
      rw [hd]
      exact isSum_add onG_minus onG_minus (by decide +kernel)
end Ob
