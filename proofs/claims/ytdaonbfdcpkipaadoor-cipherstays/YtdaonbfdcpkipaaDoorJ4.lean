/-
  Joined texts: The document's own marks, walked: the rest by 2^130 - 5.
-/
import Derived.Test.YtdaonbfdcpkipaaDoorJ3
import Derived.Test.YtdaonbfdcpkipaaDoorJ1
import Derived.Deep.AppendLies
import Derived.Deep.CutRange

namespace Go.Proofs.YtdaonbfdcpkipaaDoor
open Go.RowKit Go.Proofs
set_option linter.unusedVariables false
set_option linter.unusedSimpArgs false
attribute [local go_sem ↓] Go.wp_at_zero Go.wp_at_succ

/-- The number that 40 cells tell. -/
def cellN (w : World) (g i : Nat) : Nat := match w.cell? ⟨g, i, none⟩ with | some (.int _ a) => a.toNat | _ => 0
def valW (v : Value) (w : World) : Nat := match v with | .slice (some a) _ _ => Ob.valD (cellN w a.block) 40 | _ => 0
theorem valW_arr {w : World} {g n c : Nat} {x : Nat → Nat} (t : Arr w .i64 g 40 x) : valW (.slice (some ⟨g, 0, none⟩) n c) w = Ob.valD x 40 :=
  Ob.valD_congr fun i hi => by unfold cellN; rw [t.c i hi]; rfl
/-- The high digits, i of them laid. -/
def hiI (y : Nat → Nat) (i j : Nat) : Nat := if j < i then Ob.hiD y j else 0
theorem hiI_zero (y : Nat → Nat) : hiI y 0 = fun _ => 0 := by funext j; simp [hiI]
theorem hiI_succ (y : Nat → Nat) (i : Nat) : Ob.upd (hiI y i) i (Ob.hiD y i) = hiI y (i + 1) := by
  funext j
  unfold Ob.upd hiI
  by_cases h1 : j = i
  · subst h1; simp
  · by_cases h2 : j < i
    · simp [h1, h2, Nat.lt_succ_of_lt h2]
    · simp [h1, h2]; omega
theorem hiD_lt {y : Nat → Nat} (h : ∀ i, y i < 256) (i : Nat) : Ob.hiD y i < 256 := by
  unfold Ob.hiD
  have h1 := h i
  have h2 : y (i + 1) % 4 < 4 := Nat.mod_lt _ (by decide)
  omega
/-- The folded digits, i of them laid. -/
def foI (x : Nat → Nat) (i j : Nat) : Nat := if j < i then Ob.foldD x j else Ob.hiD (fun i => x (16 + i)) j
theorem foI_zero (x : Nat → Nat) : foI x 0 = Ob.hiD (fun i => x (16 + i)) := by funext j; simp [foI]
theorem foI_succ (x : Nat → Nat) (i : Nat) : Ob.upd (foI x i) i (Ob.foldD x i) = foI x (i + 1) := by
  funext j
  unfold Ob.upd foI
  by_cases h1 : j = i
  · subst h1; simp
  · by_cases h2 : j < i
    · simp [h1, h2, Nat.lt_succ_of_lt h2]
    · simp [h1, h2]; omega
theorem some_step (y : Nat → Nat) (i : Nat) : decide (0 < Ob.valD (Ob.hiD y) (i + 1)) = (decide (0 < Ob.valD (Ob.hiD y) i) || decide (0 < Ob.hiD y i)) := by
  have hp : 0 < 256 ^ i := Nat.pow_pos (by decide)
  have e : Ob.valD (Ob.hiD y) (i + 1) = Ob.valD (Ob.hiD y) i + Ob.hiD y i * 256 ^ i := rfl
  rw [e]
  by_cases h1 : 0 < Ob.valD (Ob.hiD y) i
  · simp [h1]; omega
  · by_cases h2 : 0 < Ob.hiD y i
    · have : 0 < Ob.hiD y i * 256 ^ i := Nat.mul_pos h2 hp
      simp [h2]; omega
    · have e1 : Ob.valD (Ob.hiD y) i = 0 := by omega
      have e2 : Ob.hiD y i = 0 := by omega
      simp [e1, e2]

/-- The digits below bit 130 are the rest by 2^130. -/
theorem loD_mod {z : Nat → Nat} (h : ∀ i, z i < 256) : Ob.valD (Ob.loD z) 17 = Ob.valD z 17 % (Ob.PP + 5) := by
  have e : Ob.valD z 17 = Ob.valD z 16 + z 16 * 256 ^ 16 := rfl
  have e2 : Ob.valD z 17 = Ob.valD (Ob.loD z) 17 + (Ob.PP + 5) * (z 16 / 4) := by
    rw [e, Ob.loD_val, Ob.PP_eq]
    have h2 : z 16 * 256 ^ 16 = z 16 % 4 * 256 ^ 16 + 4 * 256 ^ 16 * (z 16 / 4) := by
      rw [Nat.mul_comm 4, Nat.mul_assoc, Nat.mul_comm (z 16 % 4), ← Nat.mul_add, Nat.mod_add_div, Nat.mul_comm]
    rw [h2, Nat.add_assoc]
  rw [e2, Nat.add_mul_mod_self_left, Nat.mod_eq_of_lt (Ob.loD_val_lt h)]
/-- 5 more, in the lowest digit. -/
theorem upd0_val (f : Nat → Nat) : ∀ n, Ob.valD (Ob.upd f 0 (f 0 + 5)) (n + 1) = Ob.valD f (n + 1) + 5
  | 0 => by simp [Ob.valD, Ob.upd]
  | n + 1 => by
    show Ob.valD (Ob.upd f 0 (f 0 + 5)) (n + 1) + Ob.upd f 0 (f 0 + 5) (n + 1) * 256 ^ (n + 1) = Ob.valD f (n + 1) + f (n + 1) * 256 ^ (n + 1) + 5
    rw [upd0_val f n, show Ob.upd f 0 (f 0 + 5) (n + 1) = f (n + 1) from by simp [Ob.upd]]
    omega
/-- 5 more, carried, and the rest by 2^130. -/
theorem end_mod (f : Nat → Nat) : Ob.valD (Ob.loD (Ob.carO (Ob.mask (Ob.upd f 0 (f 0 + 5)) 17))) 17 = (Ob.valD f 17 + 5) % (Ob.PP + 5) := by
  rw [loD_mod (Ob.carO_lt _), Ob.carO_val, Ob.valD_congr (f := Ob.mask (Ob.upd f 0 (f 0 + 5)) 17) (g := Ob.upd f 0 (f 0 + 5)) (fun i hi => by unfold Ob.mask; rw [if_pos hi]), upd0_val f 16]
  exact Nat.mod_mod_of_dvd _ ⟨64, by decide⟩
theorem mask_val (f : Nat → Nat) : Ob.valD (Ob.mask f 24) 40 = Ob.valD f 24 := by
  rw [Ob.valD_more (m := 24) (f := Ob.mask f 24) 16 (fun i hi => by unfold Ob.mask; rw [if_neg (by omega)])]
  exact Ob.valD_congr fun i hi => by unfold Ob.mask; rw [if_pos hi]

/-- append([]int{}, x[:n]...): a row of one's own. -/
theorem wpList_copyI {ops : Array Oper} {rest : List Oper} {o : Oper} {a : Act} {w : World} {Q : Exit → Act → World → Prop} (hgd : o.guard = none) (s x : Operand)
    (ho : o.op = .call { callee := .builtin .append, args := #[s, x], argTypes := #[49, 49] }) (base b0 : Nat) (hs : a.eval s = .slice (some ⟨b0, 0, none⟩) 0 0)
    (hown0 : w.ownsRow base 3 1 (.slice (some ⟨b0, 0, none⟩) 0 0) 0 []) (hbase : base ≤ w.heap.size) (b n c : Nat) (z : Nat → Nat) (hx : a.eval x = .slice (some ⟨b, 0, none⟩) n c) (hR : Rd w .i64 b n z) (h0 : 0 < n) (hn : n ≤ 1000000)
    (h : ∀ g cap w', base ≤ g → Arr w' .i64 g n z → Below base w w' → wpList Tryd.prog ops Q rest (a.put o.dst (.slice (some ⟨g, 0, none⟩) n cap)) w') : wpList Tryd.prog ops Q (o :: rest) a w := by
  obtain ⟨i0, hi, hz1, hz2, hz0⟩ := intInfo
  have hnews : ∀ j u, (arrL .i64 z n)[j]? = some u → w.cell? ((⟨b, 0, none⟩ : Addr).add j) = some u := by
    intro j u hu
    have hj : j < n := by
      rcases Nat.lt_or_ge j n with h1 | h1
      · exact h1
      · have : (arrL .i64 z n)[j]? = none := List.getElem?_eq_none (by rw [arrL_length]; exact h1)
        rw [this] at hu
        cases hu
    rw [arrL_get _ _ _ _ hj] at hu
    cases hu
    have hadd : (⟨b, 0, none⟩ : Addr).add j = ⟨b, j, none⟩ := by unfold Addr.add; split <;> simp_all
    rw [hadd]
    exact hR.c j hj
  refine wpList_append_lies _ hgd s x 49 ho base 3 i0 _ 1 8 Tryd.underlying49 hi hz0 hz1 hz2 rfl (by decide) _ 0 [] hs hown0 ⟨b, 0, none⟩ n c (arrL .i64 z n) hx (by rw [arrL_length, Nat.mul_one]) hnews (by intro u hu; simp only [arrL, List.mem_map] at hu; obtain ⟨i, _, rfl⟩ := hu; rfl) (by omega) (by unfold maxLen; omega) (by omega) hbase w.heap.size rfl ?_
  intro g cap w' hown hg _ _
  rw [Nat.zero_add, List.nil_append] at hown
  rw [Nat.zero_add]
  exact h g cap w' (hown.lt g rfl).1 (arr_of_row hown) ((Below.refl base w).grown hg hbase (fun k hk => (hown0.lt k hk).1))

set_option maxHeartbeats 8000000 in
set_option maxRecDepth 4000 in
theorem rest_core (b L c : Nat) (hL : L ≤ 40) (f : Nat → Nat) (hf : ∀ i, i < L → f i ≤ 1152921504606846976) (hv : Ob.valD (Ob.mask f L) 40 < 256 ^ 40) (w : World) (hR : Rd w .i64 b L f) :
    Calls Tryd.prog 25 #[.slice (some ⟨b, 0, none⟩) L c] w fun e w' => ∃ g cap d, e = .returned (.slice (some ⟨g, 0, none⟩) 17 cap) ∧ w.heap.size ≤ g ∧ Arr w' .i64 g 17 d ∧ (∀ i, d i < 256) ∧ Ob.valD d 17 = Ob.valD (Ob.mask f L) 40 % Ob.PP ∧ Below w.heap.size w w' := by
  have c1 : Calls Tryd.prog 26 #[.slice (some ⟨b, 0, none⟩) L c, .int .i64 40] w fun e w' => e = .returned (.slice (some ⟨w.heap.size, 0, none⟩) 40 40) ∧ Arr w' .i64 w.heap.size 40 (Ob.carO (Ob.mask f L)) ∧ Below w.heap.size w w' := carried_core b L c 40 (by decide) (by omega) f hf w hR
  obtain ⟨T, hT⟩ : ∃ T, Hid (Ob.valD (Ob.mask f L) 40 % Ob.PP = T) := ⟨_, rfl⟩
  have hX : Hid (Ob.valD (Ob.carO (Ob.mask f L)) 40 % Ob.PP = T) := by show _ = _; rw [Ob.carO_val, Nat.mod_eq_of_lt hv, hT.out]
  obtain ⟨i0, hi, hz1, hz2, hz0⟩ := intInfo
  obtain ⟨N, hN⟩ : ∃ N, Hid (w.heap.size = N) := ⟨_, rfl⟩
  clear hf hv hR
  rw [hT.out]
  rw [hN.out] at c1
  rw [hN.out]
  go_enter Tryd.func25, Tryd.ntmps25
  go_upto_region 2 with (go_at_call 26; with_reducible refine c1.mono ?_; rintro e W1 ⟨rfl, tx1, b1⟩)
  obtain ⟨x1, hx1⟩ : ∃ x : Nat → Nat, Hid (x = fun i => if i < 40 then Ob.carO (Ob.mask f L) i else 0) := ⟨_, rfl⟩
  have tx1' : Hid (Arr W1 .i64 N 40 x1) := tx1.congr (fun i hi => by rw [hx1.out]; simp [hi])
  have hd1 : Hid (∀ i, x1 i < 256) := fun i => by rw [hx1.out]; show (if i < 40 then _ else 0) < 256; split; exact Ob.carO_lt _ _; decide
  have hz1' : Hid (x1 40 = 0) := by rw [hx1.out]; rfl
  have hm1 : Hid (Ob.valD x1 40 % Ob.PP = T) := by rw [← hX.out]; exact congrArg (· % Ob.PP) (Ob.valD_congr fun i hi => by rw [hx1.out]; simp [hi])
  clear c1 tx1 hX hx1
  go_loopw [3] (fun s3 wr => ∃ (g : Nat) (x : Nat → Nat), s3 = .slice (some ⟨g, 0, none⟩) 40 40 ∧ N ≤ g ∧ Hid (Arr wr .i64 g 40 x) ∧ Hid (∀ i, x i < 256) ∧ Hid (x 40 = 0) ∧ Hid (Ob.valD x 40 % Ob.PP = T) ∧ Below N w wr) (fun s3 wr => valW s3 wr)
  case atStart => exact ⟨N, x1, rfl, Nat.le_refl _, tx1', hd1, hz1', hm1, b1⟩
  case round =>
    clear tx1' hd1 hz1' hm1 b1
    obtain ⟨g, x, rfl, lg, tx, hd, hz, hm, hB⟩ := hrel
    have l0 := hB.size
    obtain ⟨W2, hmk, th2, b2, z2⟩ := make_ints 24 (by decide) wr
    have tx2 : Hid (Arr W2 .i64 g 40 x) := tx.out.below b2 tx.out.lt
    have hB2 : Below N w W2 := below_via b2 hB (by have := hN.out; omega)
    obtain ⟨y, hy⟩ : ∃ y : Nat → Nat, Hid (y = fun i => x (16 + i)) := ⟨_, rfl⟩
    have th2' : Hid (Arr W2 .i64 wr.heap.size 24 (hiI y 0)) := by rw [hiI_zero]; exact th2
    have lgw := tx.out.lt
    obtain ⟨H, hH⟩ : ∃ H, Hid (wr.heap.size = H) := ⟨_, rfl⟩
    rw [hH.out] at th2' hmk lgw
    have hmk' : (Instr.makeSlice 49 (.int .i64 24) (.int .i64 24)).run Tryd.prog wr = .ok (.slice (some ⟨H, 0, none⟩) 24 24) W2 := hmk
    have hmeas : Hid (valW (.slice (some ⟨g, 0, none⟩) 40 40) wr = Ob.valD x 40) := valW_arr tx.out
    clear th2 hmk b2 tx hB
    go_wp2
    clear hmk'
    go_loopw [5, 6] (fun s5 s6 wr => ∃ (i : Nat), i ≤ 24 ∧ s6 = .int .i64 (i : Nat) ∧ s5 = .bool (decide (0 < Ob.valD (Ob.hiD y) i)) ∧ Hid (Arr wr .i64 H 24 (hiI y i)) ∧ Hid (Arr wr .i64 g 40 x) ∧ Below N w wr) (fun _ s6 _ => 24 - (intOf s6).toNat)
    case atStart => exact ⟨0, by omega, rfl, rfl, th2', tx2, hB2⟩
    case round =>
      clear th2' tx2 hB2
      obtain ⟨i, hi24, rfl, rfl, th, tx, hB⟩ := hrel
      by_cases hlt : i < 24
      · have i0 : (i : Int) < 24 := by omega
        have i1 : (0 : Int) ≤ (i : Int) := by omega
        obtain ⟨k, hk, ek⟩ : ∃ k : Nat, Hid (16 + i = k) ∧ IntKind.i64.wrap (16 + (i : Int)) = (k : Int) := ⟨16 + i, rfl, by rw [IntKind.wrap_i64]; omega⟩
        have k0 : (k : Int) < 40 := by have := hk.out; omega
        have k1 : (0 : Int) ≤ (k : Int) := by omega
        have q0 := tx.out.c k (by have := hk.out; omega)
        have q1 := th.out.c i hlt
        have q2 := th.out.f i hlt
        obtain ⟨a, ha⟩ : ∃ a, Hid (x k = a) := ⟨_, rfl⟩
        rw [ha.out] at q0
        have hal : a < 256 := by rw [← ha.out]; exact hd.out k
        obtain ⟨p, hp, ep⟩ : ∃ p : Nat, Hid (a / 4 = p) ∧ (a : Int) / 4 = (p : Int) := ⟨a / 4, rfl, by omega⟩
        have ep' : Int.tdiv (a : Int) 4 = (p : Int) := by rw [Int.tdiv_eq_ediv_of_nonneg (by omega)]; exact ep
        have hyi : Hid (y i = a) := by rw [hy.out, ← ha.out, ← hk.out]; rfl
        go_upto_if 27 with (fail)
        have th1 : Hid (Arr (wr.setCell ⟨H, i, none⟩ (.int .i64 (p : Nat))) .i64 H 24 (Ob.upd (hiI y i) i p)) := th.out.set hlt
        have tx1 : Hid (Arr (wr.setCell ⟨H, i, none⟩ (.int .i64 (p : Nat))) .i64 g 40 x) := tx.out.far (by omega) _ _
        have hB1 : Below N w (wr.setCell ⟨H, i, none⟩ (.int .i64 (p : Nat))) := by (repeat' (first | (with_reducible first | exact Below.refl _ _ | assumption | refine Below.alloc ?_ ?_ _ | refine Below.drew ?_ | refine below_drewN ?_ _ | refine Below.setCell ?_ ?_ _ | refine below_via (by with_reducible assumption) ?_ ?_) | omega | (simp only [szs]; omega) | (simp only [szs] at *; omega)))
        clear th tx hB q0 q1 q2 ep ep' ek k0 k1
        generalize (wr.setCell ⟨H, i, none⟩ (.int .i64 (p : Nat))) = W3 at *
        go_cut [27] from 13 to 50 (fun s27 w6 => Hid (Arr w6 .i64 H 24 (hiI y (i + 1))) ∧ Hid (Arr w6 .i64 g 40 x) ∧ Below N w w6)
        case first =>
          by_cases h23 : i < 23
          · have i2 : (i : Int) < 23 := by omega
            obtain ⟨k', hk', ek'⟩ : ∃ k : Nat, Hid (17 + i = k) ∧ IntKind.i64.wrap (17 + (i : Int)) = (k : Int) := ⟨17 + i, rfl, by rw [IntKind.wrap_i64]; omega⟩
            have k0' : (k' : Int) < 40 := by have := hk'.out; omega
            have k1' : (0 : Int) ≤ (k' : Int) := by omega
            obtain ⟨a', ha'⟩ : ∃ a, Hid (x k' = a) := ⟨_, rfl⟩
            have hal' : a' < 256 := by rw [← ha'.out]; exact hd.out k'
            obtain ⟨m4, hm4, em4⟩ : ∃ p : Nat, Hid (a' % 4 = p) ∧ (a' : Int) % 4 = (p : Int) := ⟨a' % 4, rfl, by omega⟩
            have em4' : Int.tmod (a' : Int) 4 = (m4 : Int) := by rw [Int.tmod_eq_emod_of_nonneg (by omega)]; exact em4
            obtain ⟨u, hu, eu⟩ : ∃ u : Nat, Hid (m4 * 64 = u) ∧ IntKind.i64.wrap ((m4 : Int) * 64) = (u : Int) := ⟨m4 * 64, rfl, by rw [IntKind.wrap_i64]; have := hm4.out; omega⟩
            obtain ⟨v, hv, ev⟩ : ∃ v : Nat, Hid (p + u = v) ∧ IntKind.i64.wrap ((p : Int) + (u : Int)) = (v : Int) := ⟨p + u, rfl, by rw [IntKind.wrap_i64]; have := hm4.out; have := hu.out; have := hp.out; omega⟩
            have hvE : Ob.hiD y i = v := by
              unfold Ob.hiD
              rw [hyi.out, hp.out, ← hv.out, ← hu.out, ← hm4.out, ← ha'.out, hy.out, ← hk'.out]
              show p + x (16 + (i + 1)) % 4 * 64 = p + x (17 + i) % 4 * 64
              rw [show 16 + (i + 1) = 17 + i by omega]
            have p0 := th1.out.drew.c i hlt
            rw [Ob.upd_same] at p0
            have p1 := tx1.out.drew.c k' (by have := hk'.out; omega)
            rw [ha'.out] at p1
            have p2 := th1.out.c i hlt
            have p3 := th1.out.f i hlt
            go_upto_region 9 with (fail)
            refine wp_region_noPanic ?_
            refine region_lastly (S := (fun w' => w'.cell? ⟨H, i, none⟩ = some (.int .i64 (p : Nat)) ∧ w'.cell? ⟨g, k', none⟩ = some (.int .i64 (a' : Nat)))) [15] (by kernel_rfl) (by ((try dsimp only); (exact ⟨p0, p1⟩))) (fun hHeld => ?_)
            refine anyZ_free (i := 0) (oi := ?oi_1) (v := ?v_1) ?hi_1 ?hs_1 ?hf_1 ?hr_1 ?hQ_1 (Or.inl ⟨?hw_1, ?hy_1⟩) ?hrest_1
            case hi_1 => (simp only [List.getElem?_toArray, List.getElem?_cons_succ, List.getElem?_cons_zero]; exact rfl)
            case hs_1 => kernel_rfl
            case hf_1 => kernel_rfl
            case hr_1 => kernel_rfl
            case hQ_1 => exact fun _ _ _ h => h
            case hw_1 => rfl
            case hy_1 => (intro w _; go_simp; try with_reducible rfl)
            try simp only [Act.put, List.setIfInBounds_toArray, List.set_cons_zero, List.set_cons_succ]
            refine anyZ_free (i := 1) (oi := ?oi_2) (v := ?v_2) ?hi_2 ?hs_2 ?hf_2 ?hr_2 ?hQ_2 (Or.inl ⟨?hw_2, ?hy_2⟩) ?hrest_2
            case hi_2 => (simp only [List.getElem?_toArray, List.getElem?_cons_succ, List.getElem?_cons_zero]; exact rfl)
            case hs_2 => kernel_rfl
            case hf_2 => kernel_rfl
            case hr_2 => kernel_rfl
            case hQ_2 => exact fun _ _ _ h => h
            case hw_2 => rfl
            case hy_2 => (intro w _; go_simp; try with_reducible rfl)
            try simp only [Act.put, List.setIfInBounds_toArray, List.set_cons_zero, List.set_cons_succ]
            refine anyZ_free (i := 2) (oi := ?oi_3) (v := ?v_3) ?hi_3 ?hs_3 ?hf_3 ?hr_3 ?hQ_3 (Or.inl ⟨?hw_3, ?hy_3⟩) ?hrest_3
            case hi_3 => (simp only [List.getElem?_toArray, List.getElem?_cons_succ, List.getElem?_cons_zero]; exact rfl)
            case hs_3 => kernel_rfl
            case hf_3 => kernel_rfl
            case hr_3 => kernel_rfl
            case hQ_3 => exact fun _ _ _ h => h
            case hw_3 => rfl
            case hy_3 => (intro w _; go_simp; try with_reducible rfl)
            try simp only [Act.put, List.setIfInBounds_toArray, List.set_cons_zero, List.set_cons_succ]
            refine anyZ_free (i := 3) (oi := ?oi_4) (v := ?v_4) ?hi_4 ?hs_4 ?hf_4 ?hr_4 ?hQ_4 (Or.inl ⟨?hw_4, ?hy_4⟩) ?hrest_4
            case hi_4 => (simp only [List.getElem?_toArray, List.getElem?_cons_succ, List.getElem?_cons_zero]; exact rfl)
            case hs_4 => kernel_rfl
            case hf_4 => kernel_rfl
            case hr_4 => kernel_rfl
            case hQ_4 => exact fun _ _ _ h => h
            case hw_4 => rfl
            case hy_4 => (intro w _; go_simp; try with_reducible rfl)
            try simp only [Act.put, List.setIfInBounds_toArray, List.set_cons_zero, List.set_cons_succ]
            refine anyZ_free (i := 4) (oi := ?oi_5) (v := ?v_5) ?hi_5 ?hs_5 ?hf_5 ?hr_5 ?hQ_5 (Or.inl ⟨?hw_5, ?hy_5⟩) ?hrest_5
            case hi_5 => (simp only [List.getElem?_toArray, List.getElem?_cons_succ, List.getElem?_cons_zero]; exact rfl)
            case hs_5 => kernel_rfl
            case hf_5 => kernel_rfl
            case hr_5 => kernel_rfl
            case hQ_5 => exact fun _ _ _ h => h
            case hw_5 => rfl
            case hy_5 => (intro w _; go_simp; try with_reducible rfl)
            try simp only [Act.put, List.setIfInBounds_toArray, List.set_cons_zero, List.set_cons_succ]
            refine anyZ_take (i := 5) (oi := ?oi_6) (v := ?v_6) ?hi_6 ?hz_6 ?hs_6 ?hf_6 ?hr_6 ?hQ_6 (Or.inl ⟨?hw_6, ?hy_6⟩) ?hS_6 ?hrest_6
            case hi_6 => (simp only [List.getElem?_toArray, List.getElem?_cons_succ, List.getElem?_cons_zero]; exact rfl)
            case hz_6 => kernel_rfl
            case hs_6 => kernel_rfl
            case hf_6 => kernel_rfl
            case hr_6 => kernel_rfl
            case hQ_6 => exact fun _ _ _ h => h
            case hw_6 => rfl
            case hS_6 => assumption
            case hy_6 => (intro w hSw; (try dsimp only at hSw); go_simp; try with_reducible rfl)
            try simp only [Act.put, List.setIfInBounds_toArray, List.set_cons_zero, List.set_cons_succ]
            refine anyZ_free (i := 6) (oi := ?oi_7) (v := ?v_7) ?hi_7 ?hs_7 ?hf_7 ?hr_7 ?hQ_7 (Or.inl ⟨?hw_7, ?hy_7⟩) ?hrest_7
            case hi_7 => (simp only [List.getElem?_toArray, List.getElem?_cons_succ, List.getElem?_cons_zero]; exact rfl)
            case hs_7 => kernel_rfl
            case hf_7 => kernel_rfl
            case hr_7 => kernel_rfl
            case hQ_7 => exact fun _ _ _ h => h
            case hw_7 => rfl
            case hy_7 => (intro w _; go_simp; try with_reducible rfl)
            try simp only [Act.put, List.setIfInBounds_toArray, List.set_cons_zero, List.set_cons_succ]
            refine anyZ_free (i := 7) (oi := ?oi_8) (v := ?v_8) ?hi_8 ?hs_8 ?hf_8 ?hr_8 ?hQ_8 (Or.inl ⟨?hw_8, ?hy_8⟩) ?hrest_8
            case hi_8 => (simp only [List.getElem?_toArray, List.getElem?_cons_succ, List.getElem?_cons_zero]; exact rfl)
            case hs_8 => kernel_rfl
            case hf_8 => kernel_rfl
            case hr_8 => kernel_rfl
            case hQ_8 => exact fun _ _ _ h => h
            case hw_8 => rfl
            case hy_8 => (intro w _; go_simp; try with_reducible rfl)
            try simp only [Act.put, List.setIfInBounds_toArray, List.set_cons_zero, List.set_cons_succ]
            refine anyZ_free (i := 8) (oi := ?oi_9) (v := ?v_9) ?hi_9 ?hs_9 ?hf_9 ?hr_9 ?hQ_9 (Or.inl ⟨?hw_9, ?hy_9⟩) ?hrest_9
            case hi_9 => (simp only [List.getElem?_toArray, List.getElem?_cons_succ, List.getElem?_cons_zero]; exact rfl)
            case hs_9 => kernel_rfl
            case hf_9 => kernel_rfl
            case hr_9 => kernel_rfl
            case hQ_9 => exact fun _ _ _ h => h
            case hw_9 => rfl
            case hy_9 => (intro w _; go_simp; try with_reducible rfl)
            try simp only [Act.put, List.setIfInBounds_toArray, List.set_cons_zero, List.set_cons_succ]
            refine anyZ_free (i := 9) (oi := ?oi_10) (v := ?v_10) ?hi_10 ?hs_10 ?hf_10 ?hr_10 ?hQ_10 (Or.inl ⟨?hw_10, ?hy_10⟩) ?hrest_10
            case hi_10 => (simp only [List.getElem?_toArray, List.getElem?_cons_succ, List.getElem?_cons_zero]; exact rfl)
            case hs_10 => kernel_rfl
            case hf_10 => kernel_rfl
            case hr_10 => kernel_rfl
            case hQ_10 => exact fun _ _ _ h => h
            case hw_10 => rfl
            case hy_10 => (intro w _; go_simp; try with_reducible rfl)
            try simp only [Act.put, List.setIfInBounds_toArray, List.set_cons_zero, List.set_cons_succ]
            refine anyZ_take (i := 10) (oi := ?oi_11) (v := ?v_11) ?hi_11 ?hz_11 ?hs_11 ?hf_11 ?hr_11 ?hQ_11 (Or.inl ⟨?hw_11, ?hy_11⟩) ?hS_11 ?hrest_11
            case hi_11 => (simp only [List.getElem?_toArray, List.getElem?_cons_succ, List.getElem?_cons_zero]; exact rfl)
            case hz_11 => kernel_rfl
            case hs_11 => kernel_rfl
            case hf_11 => kernel_rfl
            case hr_11 => kernel_rfl
            case hQ_11 => exact fun _ _ _ h => h
            case hw_11 => rfl
            case hS_11 => assumption
            case hy_11 => (intro w hSw; (try dsimp only at hSw); go_simp; try with_reducible rfl)
            try simp only [Act.put, List.setIfInBounds_toArray, List.set_cons_zero, List.set_cons_succ]
            refine anyZ_free (i := 11) (oi := ?oi_12) (v := ?v_12) ?hi_12 ?hs_12 ?hf_12 ?hr_12 ?hQ_12 (Or.inl ⟨?hw_12, ?hy_12⟩) ?hrest_12
            case hi_12 => (simp only [List.getElem?_toArray, List.getElem?_cons_succ, List.getElem?_cons_zero]; exact rfl)
            case hs_12 => kernel_rfl
            case hf_12 => kernel_rfl
            case hr_12 => kernel_rfl
            case hQ_12 => exact fun _ _ _ h => h
            case hw_12 => rfl
            case hy_12 => (intro w _; go_simp; try with_reducible rfl)
            try simp only [Act.put, List.setIfInBounds_toArray, List.set_cons_zero, List.set_cons_succ]
            refine anyZ_free (i := 12) (oi := ?oi_13) (v := ?v_13) ?hi_13 ?hs_13 ?hf_13 ?hr_13 ?hQ_13 (Or.inl ⟨?hw_13, ?hy_13⟩) ?hrest_13
            case hi_13 => (simp only [List.getElem?_toArray, List.getElem?_cons_succ, List.getElem?_cons_zero]; exact rfl)
            case hs_13 => kernel_rfl
            case hf_13 => kernel_rfl
            case hr_13 => kernel_rfl
            case hQ_13 => exact fun _ _ _ h => h
            case hw_13 => rfl
            case hy_13 => (intro w _; go_simp; try with_reducible rfl)
            try simp only [Act.put, List.setIfInBounds_toArray, List.set_cons_zero, List.set_cons_succ]
            refine anyZ_free (i := 13) (oi := ?oi_14) (v := ?v_14) ?hi_14 ?hs_14 ?hf_14 ?hr_14 ?hQ_14 (Or.inl ⟨?hw_14, ?hy_14⟩) ?hrest_14
            case hi_14 => (simp only [List.getElem?_toArray, List.getElem?_cons_succ, List.getElem?_cons_zero]; exact rfl)
            case hs_14 => kernel_rfl
            case hf_14 => kernel_rfl
            case hr_14 => kernel_rfl
            case hQ_14 => exact fun _ _ _ h => h
            case hw_14 => rfl
            case hy_14 => (intro w _; go_simp; try with_reducible rfl)
            try simp only [Act.put, List.setIfInBounds_toArray, List.set_cons_zero, List.set_cons_succ]
            refine anyZ_free (i := 14) (oi := ?oi_15) (v := ?v_15) ?hi_15 ?hs_15 ?hf_15 ?hr_15 ?hQ_15 (Or.inl ⟨?hw_15, ?hy_15⟩) ?hrest_15
            case hi_15 => (simp only [List.getElem?_toArray, List.getElem?_cons_succ, List.getElem?_cons_zero]; exact rfl)
            case hs_15 => kernel_rfl
            case hf_15 => kernel_rfl
            case hr_15 => kernel_rfl
            case hQ_15 => exact fun _ _ _ h => h
            case hw_15 => rfl
            case hy_15 => (intro w _; go_simp; try with_reducible rfl)
            try simp only [Act.put, List.setIfInBounds_toArray, List.set_cons_zero, List.set_cons_succ]
            refine anyZ_ready (rs := [15]) (by kernel_rfl) (by simp) ?_
            refine (AllZ.last (o := ?o_16) ?ho_16 (by rfl) (fun K hK => ?st_16) AllZ.nil)
            case ho_16 => (simp only [List.getElem?_toArray, List.getElem?_cons_succ, List.getElem?_cons_zero]; exact rfl)
            case st_16 =>
              go_simp
              refine hK.out _ _ ?_
              clear hK K
              try simp only [Act.put, List.setIfInBounds_toArray, List.set_cons_zero, List.set_cons_succ]
              refine anyZ_done (by kernel_rfl) ?_ _
              refine NoPanic.normal ?_
              have th4 : Hid (Arr ((W3.setCell ⟨H, i, none⟩ (.int .i64 (v : Nat))).drew) .i64 H 24 (hiI y (i + 1))) := by
                have q := (th1.out.set (i := i) (z := v) hlt).drew
                refine q.congr fun j hj => ?_
                rw [← hiI_succ, hvE]
                unfold Ob.upd
                by_cases e : j = i <;> simp [e]
              have tx4 : Hid (Arr ((W3.setCell ⟨H, i, none⟩ (.int .i64 (v : Nat))).drew) .i64 g 40 x) := (tx1.out.far (by omega) _ _).drew
              have hB4 : Below N w ((W3.setCell ⟨H, i, none⟩ (.int .i64 (v : Nat))).drew) := by (repeat' (first | (with_reducible first | exact Below.refl _ _ | assumption | refine Below.alloc ?_ ?_ _ | refine Below.drew ?_ | refine below_drewN ?_ _ | refine Below.setCell ?_ ?_ _ | refine below_via (by with_reducible assumption) ?_ ?_) | omega | (simp only [szs]; omega) | (simp only [szs] at *; omega)))
              clear hHeld p0 p1 p2 p3
              go_wp2
              go_meet
              case rel => exact ⟨th4, tx4, hB4⟩
          · have i2 : ¬ (i : Int) < 23 := by omega
            have hvE : Ob.hiD y i = p := by
              unfold Ob.hiD
              have h24 : i + 1 = 24 := by omega
              have hy24 : y 24 = 0 := by rw [hy.out]; exact hz.out
              rw [hyi.out, hp.out, h24, hy24]
              omega
            have th4 : Hid (Arr W3 .i64 H 24 (hiI y (i + 1))) := by rw [← hiI_succ, hvE]; exact th1.out
            go_wp2
            go_meet
            case rel => exact ⟨th4, tx1, hB1⟩
        case rest =>
          clear th1 tx1 hB1
          obtain ⟨th, tx, hB⟩ := hcut
          have q1 := th.out.c i hlt
          have e1 : hiI y (i + 1) i = Ob.hiD y i := if_pos (by omega)
          rw [e1] at q1
          have hst := some_step y i
          obtain ⟨hh, hhE⟩ : ∃ h, Hid (Ob.hiD y i = h) := ⟨_, rfl⟩
          rw [hhE.out] at q1 hst
          obtain ⟨sb, hsb⟩ : ∃ s, Hid (decide (0 < Ob.valD (Ob.hiD y) i) = s) := ⟨_, rfl⟩
          rw [hsb.out] at hst ⊢
          have hst' : Hid (decide (0 < Ob.valD (Ob.hiD y) (i + 1)) = (sb || decide (0 < hh))) := hst
          clear hst e1
          cases sb with
          | true =>
            go_wp2
            go_roundw
            case rel => exact ⟨i + 1, by omega, by go_num, by rw [hst'.out]; rfl, th, tx, hB⟩
            case measure => (simp only [intOf, Int.toNat_natCast]; omega)
          | false =>
            by_cases h0 : 0 < hh
            · have h0' : (0 : Int) < (hh : Int) := by omega
              go_wp2
              go_roundw
              case rel => exact ⟨i + 1, by omega, by go_num, by rw [hst'.out]; simp [h0], th, tx, hB⟩
              case measure => (simp only [intOf, Int.toNat_natCast]; omega)
            · have h0' : ¬ (0 : Int) < (hh : Int) := by omega
              go_wp2
              go_roundw
              case rel => exact ⟨i + 1, by omega, by go_num, by rw [hst'.out]; simp [h0], th, tx, hB⟩
              case measure => (simp only [intOf, Int.toNat_natCast]; omega)
      · obtain rfl : i = 24 := by omega
        have lW := tx.out.lt
        have lH := th.out.lt
        have lN6 : N ≤ wr.heap.size := by omega
        have hown0 : (wr.alloc (.cells #[] 3)).ownsRow wr.heap.size 3 1 (.slice (some ⟨wr.heap.size, 0, none⟩) 0 0) 0 [] := World.ownsRow_made wr #[] 0 (Nat.le_refl _) (by decide) rfl
        have hBa : Below N w (wr.alloc (.cells #[] 3)) := hB.alloc lN6 _
        have hR17 : Rd (wr.alloc (.cells #[] 3)) .i64 g 17 x := ⟨by simp; omega, fun i hi => (tx.out.alloc _).c i (by omega)⟩
        obtain ⟨sb, hsb⟩ : ∃ s, Hid (decide (0 < Ob.valD (Ob.hiD y) 24) = s) := ⟨_, rfl⟩
        rw [hsb.out]
        go_upto_region 12 with (at_builtin; refine wpList_copyI rfl _ _ rfl wr.heap.size _ rfl hown0 (by simp) g 17 _ x rfl hR17 (by decide) (by decide) ?_; intro ga capa W7 lga ta7 b7)
        have th7 : Hid (Arr W7 .i64 H 24 (Ob.hiD y)) := ((th.out.alloc _).below b7 lH).congr (fun j hj => by unfold hiI; rw [if_pos hj])
        have hB7 : Below N w W7 := below_via b7 hBa lN6
        have lHga : H < ga := by omega
        have lNga : N ≤ ga := by omega
        clear th tx hB hown0 hBa hR17 b7 lW lH lN6 lga
        obtain ⟨a, ha⟩ : ∃ a, Hid (x 16 = a) := ⟨_, rfl⟩
        have hal : a < 256 := by rw [← ha.out]; exact hd.out 16
        obtain ⟨m4, hm4, em4⟩ : ∃ p : Nat, Hid (a % 4 = p) ∧ (a : Int) % 4 = (p : Int) := ⟨a % 4, rfl, by omega⟩
        have em4' : Int.tmod (a : Int) 4 = (m4 : Int) := by rw [Int.tmod_eq_emod_of_nonneg (by omega)]; exact em4
        have q0 := ta7.c 16 (by decide)
        rw [ha.out] at q0
        have q1 := ta7.f 16 (by decide)
        have ta7' : Hid (Arr W7 .i64 ga 17 x) := ta7
        clear ta7
        go_upto_region 13 with (fail)
        have ta8 : Hid (Arr (W7.setCell ⟨ga, 16, none⟩ (.int .i64 (m4 : Nat))) .i64 ga 17 (Ob.loD x)) := (ta7'.out.set (i := 16) (z := m4) (by decide)).congr (fun j hj => by
          unfold Ob.upd Ob.loD
          by_cases e : j = 16
          · subst e; rw [if_pos rfl, if_neg (by omega), if_pos rfl, ha.out, hm4.out]
          · rw [if_neg e, if_pos (by omega)])
        have th8 : Hid (Arr (W7.setCell ⟨ga, 16, none⟩ (.int .i64 (m4 : Nat))) .i64 H 24 (Ob.hiD y)) := th7.out.far (by omega) _ _
        have hB8 : Below N w (W7.setCell ⟨ga, 16, none⟩ (.int .i64 (m4 : Nat))) := by (repeat' (first | (with_reducible first | exact Below.refl _ _ | assumption | refine Below.alloc ?_ ?_ _ | refine Below.drew ?_ | refine below_drewN ?_ _ | refine Below.setCell ?_ ?_ _ | refine below_via (by with_reducible assumption) ?_ ?_) | omega | (simp only [szs]; omega) | (simp only [szs] at *; omega)))
        clear ta7' th7 hB7 q0 q1 em4 em4'
        generalize (W7.setCell ⟨ga, 16, none⟩ (.int .i64 (m4 : Nat))) = W8 at *
        have lw16 : Hid (Ob.loD x 16 < 4) := by show (if 16 < 16 then x 16 else if 16 = 16 then x 16 % 4 else 0) < 4; rw [if_neg (by omega), if_pos rfl]; omega
        cases sb with
        | false =>
          have hv0 : Ob.valD (Ob.hiD fun i => x (16 + i)) 24 = 0 := by have := of_decide_eq_false hsb.out; rw [hy.out] at this; omega
          have hlo : Hid (Ob.valD (Ob.loD x) 17 % Ob.PP = T) := by show _ = _; rw [Ob.fold_end hz.out hv0, hm.out]
          have hlt5 : Hid (Ob.valD (Ob.loD x) 17 < Ob.PP + 5) := Ob.loD_val_lt hd.out
          clear hv0
          have cl := less_core ga 17 capa (by decide) (by decide) (Ob.loD x) (fun i _ => Ob.loD_lt hd.out i) lw16.out W8 ta8.out.rd
          by_cases hl : Ob.valD (Ob.loD x) 17 < Ob.PP
          · rw [decide_eq_true hl] at cl
            have hl' : Hid (Ob.valD (Ob.loD x) 17 < Ob.PP) := hl
            clear hl
            go_wp2_with (go_at_call 43; with_reducible refine cl.mono ?_; rintro e W9 ⟨rfl, rfl⟩)
            go_ret
            exact ⟨ga, capa, Ob.loD x, rfl, lNga, ta8.out, Ob.loD_lt hd.out, by rw [← hlo.out]; exact (Nat.mod_eq_of_lt hl'.out).symm, hB8⟩
          · rw [decide_eq_false hl] at cl
            have hl' : Hid (¬ Ob.valD (Ob.loD x) 17 < Ob.PP) := hl
            clear hl
            have q0 := ta8.out.c 0 (by decide)
            have q1 := ta8.out.f 0 (by decide)
            obtain ⟨z0, hz0'⟩ : ∃ z, Hid (Ob.loD x 0 = z) := ⟨_, rfl⟩
            rw [hz0'.out] at q0
            have hz0l : z0 < 256 := by rw [← hz0'.out]; exact Ob.loD_lt hd.out 0
            obtain ⟨v0, hv0, ev0⟩ : ∃ v : Nat, Hid (z0 + 5 = v) ∧ IntKind.i64.wrap ((z0 : Int) + 5) = (v : Int) := ⟨z0 + 5, rfl, by rw [IntKind.wrap_i64]; omega⟩
            go_upto_region 17 with (go_at_call 43; with_reducible refine cl.mono ?_; rintro e W9 ⟨rfl, rfl⟩)
            have ta9 : Hid (Arr (W8.setCell ⟨ga, 0, none⟩ (.int .i64 (v0 : Nat))) .i64 ga 17 (Ob.upd (Ob.loD x) 0 v0)) := ta8.out.set (by decide)
            have hB9 : Below N w (W8.setCell ⟨ga, 0, none⟩ (.int .i64 (v0 : Nat))) := by (repeat' (first | (with_reducible first | exact Below.refl _ _ | assumption | refine Below.alloc ?_ ?_ _ | refine Below.drew ?_ | refine below_drewN ?_ _ | refine Below.setCell ?_ ?_ _ | refine below_via (by with_reducible assumption) ?_ ?_) | omega | (simp only [szs]; omega) | (simp only [szs] at *; omega)))
            clear ta8 th8 hB8 q0 q1 cl
            generalize (W8.setCell ⟨ga, 0, none⟩ (.int .i64 (v0 : Nat))) = W9 at *
            have hbd : ∀ i, i < 17 → Ob.upd (Ob.loD x) 0 v0 i ≤ 1152921504606846976 := fun i _ => by
              have h1 := Ob.loD_lt hd.out i
              have h2 := hv0.out
              unfold Ob.upd
              split <;> omega
            have cc : Calls Tryd.prog 26 #[.slice (some ⟨ga, 0, none⟩) 17 capa, .int .i64 17] W9 fun e w' => e = .returned (.slice (some ⟨W9.heap.size, 0, none⟩) 17 17) ∧ Arr w' .i64 W9.heap.size 17 (Ob.carO (Ob.mask (Ob.upd (Ob.loD x) 0 v0) 17)) ∧ Below W9.heap.size W9 w' := carried_core ga 17 capa 17 (by decide) (by decide) _ hbd W9 ta9.out.rd
            have l9 := ta9.out.lt
            obtain ⟨G, hG⟩ : ∃ G, Hid (W9.heap.size = G) := ⟨_, rfl⟩
            rw [hG.out] at cc l9
            clear hbd
            go_upto_region 18 with (go_at_call 26; with_reducible refine cc.mono ?_; rintro e W10 ⟨rfl, ta10, b10⟩)
            have hB10 : Below N w W10 := below_via b10 hB9 (by omega)
            have hend : Hid (Ob.valD (Ob.loD (Ob.carO (Ob.mask (Ob.upd (Ob.loD x) 0 v0) 17))) 17 = T) := by
              show _ = _
              rw [← hv0.out, ← hz0'.out, end_mod, ← hlo.out, ← Ob.last_mod hlt5.out, if_neg hl'.out]
            obtain ⟨d, hdE⟩ : ∃ d, Hid (Ob.carO (Ob.mask (Ob.upd (Ob.loD x) 0 v0) 17) = d) := ⟨_, rfl⟩
            have hdl : Hid (∀ i, d i < 256) := fun i => by rw [← hdE.out]; exact Ob.carO_lt _ _
            rw [hdE.out] at ta10 hend
            have ta10' : Hid (Arr W10 .i64 G 17 d) := ta10
            clear ta10 b10 cc ta9 hB9
            have q0 := ta10'.out.c 16 (by decide)
            have q1 := ta10'.out.f 16 (by decide)
            obtain ⟨a', ha'⟩ : ∃ a, Hid (d 16 = a) := ⟨_, rfl⟩
            rw [ha'.out] at q0
            have hal' : a' < 256 := by rw [← ha'.out]; exact hdl.out 16
            obtain ⟨m5, hm5, em5⟩ : ∃ p : Nat, Hid (a' % 4 = p) ∧ (a' : Int) % 4 = (p : Int) := ⟨a' % 4, rfl, by omega⟩
            have em5' : Int.tmod (a' : Int) 4 = (m5 : Int) := by rw [Int.tmod_eq_emod_of_nonneg (by omega)]; exact em5
            go_wp2
            go_ret
            have ta11 : Arr (W10.setCell ⟨G, 16, none⟩ (.int .i64 (m5 : Nat))) .i64 G 17 (Ob.loD d) := (ta10'.out.set (i := 16) (z := m5) (by decide)).congr (fun j hj => by
              unfold Ob.upd Ob.loD
              by_cases e : j = 16
              · subst e; rw [if_pos rfl, if_neg (by omega), if_pos rfl, ha'.out, hm5.out]
              · rw [if_neg e, if_pos (by omega)])
            have hB11 : Below N w (W10.setCell ⟨G, 16, none⟩ (.int .i64 (m5 : Nat))) := by (repeat' (first | (with_reducible first | exact Below.refl _ _ | assumption | refine Below.alloc ?_ ?_ _ | refine Below.drew ?_ | refine below_drewN ?_ _ | refine Below.setCell ?_ ?_ _ | refine below_via (by with_reducible assumption) ?_ ?_) | omega | (simp only [szs]; omega) | (simp only [szs] at *; omega)))
            exact ⟨G, 17, Ob.loD d, rfl, by omega, ta11, Ob.loD_lt hdl.out, hend.out, hB11⟩
        | true =>
          have hv0 : Hid (0 < Ob.valD (Ob.hiD fun i => x (16 + i)) 24) := by have := of_decide_eq_true hsb.out; rw [hy.out] at this; exact this
          have th8' : Hid (Arr W8 .i64 H 24 (foI x 0)) := by rw [foI_zero, ← hy.out]; exact th8
          have hhl : Hid (∀ i, Ob.hiD y i < 256) := fun i => hiD_lt (fun i => by rw [hy.out]; exact hd.out _) i
          clear th8 hsb
          go_wp2
          go_loopw [9] (fun s9 wr => ∃ (i : Nat), i ≤ 24 ∧ s9 = .int .i64 (i : Nat) ∧ Hid (Arr wr .i64 H 24 (foI x i)) ∧ Hid (Arr wr .i64 ga 17 (Ob.loD x)) ∧ Below N w wr) (fun s9 _ => 24 - (intOf s9).toNat)
          case atStart => exact ⟨0, by omega, rfl, th8', ta8, hB8⟩
          case round =>
            clear th8' ta8 hB8
            obtain ⟨i, hi24', rfl, th, ta, hB⟩ := hrel
            by_cases hlt' : i < 24
            · have i0 : (i : Int) < 24 := by omega
              have i1 : (0 : Int) ≤ (i : Int) := by omega
              have q0 := th.out.c i hlt'
              have q1 := th.out.f i hlt'
              have ef : foI x i i = Ob.hiD y i := by unfold foI; rw [if_neg (by omega), hy.out]
              obtain ⟨hh, hhE⟩ : ∃ h, Hid (Ob.hiD y i = h) := ⟨_, rfl⟩
              have hhb : hh < 256 := by rw [← hhE.out]; exact hhl.out i
              rw [ef, hhE.out] at q0
              obtain ⟨u, hu, eu⟩ : ∃ u : Nat, Hid (5 * hh = u) ∧ IntKind.i64.wrap (5 * (hh : Int)) = (u : Int) := ⟨5 * hh, rfl, by rw [IntKind.wrap_i64]; omega⟩
              have hub : u < 1280 := by have := hu.out; omega
              by_cases h17 : i < 17
              · have i2 : (i : Int) < 17 := by omega
                obtain ⟨l, hlE⟩ : ∃ l, Hid (Ob.loD x i = l) := ⟨_, rfl⟩
                have hlb : l < 256 := by rw [← hlE.out]; exact Ob.loD_lt hd.out i
                obtain ⟨v, hv, ev⟩ : ∃ v : Nat, Hid (u + l = v) ∧ IntKind.i64.wrap ((u : Int) + (l : Int)) = (v : Int) := ⟨u + l, rfl, by rw [IntKind.wrap_i64]; omega⟩
                have hvE : Ob.foldD x i = v := by
                  unfold Ob.foldD
                  rw [if_pos hlt', if_pos h17, hlE.out, ← hv.out, ← hu.out, ← hhE.out, hy.out]
                have p0 : wr.drew.cell? ⟨H, i, none⟩ = some (.int .i64 (hh : Nat)) := by have := th.out.drew.c i hlt'; rw [ef, hhE.out] at this; exact this
                have p1 : wr.drew.cell? ⟨ga, i, none⟩ = some (.int .i64 (l : Nat)) := by have := ta.out.drew.c i h17; rw [hlE.out] at this; exact this
                clear ef
                go_upto_region 24 with (fail)
                refine wp_region_noPanic ?_
                refine region_lastly (S := (fun w' => w'.cell? ⟨H, i, none⟩ = some (.int .i64 (hh : Nat)) ∧ w'.cell? ⟨ga, i, none⟩ = some (.int .i64 (l : Nat)))) [13] (by kernel_rfl) (by ((try dsimp only); (exact ⟨p0, p1⟩))) (fun hHeld => ?_)
                refine anyZ_free (i := 0) (oi := ?oi_17) (v := ?v_17) ?hi_17 ?hs_17 ?hf_17 ?hr_17 ?hQ_17 (Or.inl ⟨?hw_17, ?hy_17⟩) ?hrest_17
                case hi_17 => (simp only [List.getElem?_toArray, List.getElem?_cons_succ, List.getElem?_cons_zero]; exact rfl)
                case hs_17 => kernel_rfl
                case hf_17 => kernel_rfl
                case hr_17 => kernel_rfl
                case hQ_17 => exact fun _ _ _ h => h
                case hw_17 => rfl
                case hy_17 => (intro w _; go_simp; try with_reducible rfl)
                try simp only [Act.put, List.setIfInBounds_toArray, List.set_cons_zero, List.set_cons_succ]
                refine anyZ_free (i := 1) (oi := ?oi_18) (v := ?v_18) ?hi_18 ?hs_18 ?hf_18 ?hr_18 ?hQ_18 (Or.inl ⟨?hw_18, ?hy_18⟩) ?hrest_18
                case hi_18 => (simp only [List.getElem?_toArray, List.getElem?_cons_succ, List.getElem?_cons_zero]; exact rfl)
                case hs_18 => kernel_rfl
                case hf_18 => kernel_rfl
                case hr_18 => kernel_rfl
                case hQ_18 => exact fun _ _ _ h => h
                case hw_18 => rfl
                case hy_18 => (intro w _; go_simp; try with_reducible rfl)
                try simp only [Act.put, List.setIfInBounds_toArray, List.set_cons_zero, List.set_cons_succ]
                refine anyZ_free (i := 2) (oi := ?oi_19) (v := ?v_19) ?hi_19 ?hs_19 ?hf_19 ?hr_19 ?hQ_19 (Or.inl ⟨?hw_19, ?hy_19⟩) ?hrest_19
                case hi_19 => (simp only [List.getElem?_toArray, List.getElem?_cons_succ, List.getElem?_cons_zero]; exact rfl)
                case hs_19 => kernel_rfl
                case hf_19 => kernel_rfl
                case hr_19 => kernel_rfl
                case hQ_19 => exact fun _ _ _ h => h
                case hw_19 => rfl
                case hy_19 => (intro w _; go_simp; try with_reducible rfl)
                try simp only [Act.put, List.setIfInBounds_toArray, List.set_cons_zero, List.set_cons_succ]
                refine anyZ_free (i := 3) (oi := ?oi_20) (v := ?v_20) ?hi_20 ?hs_20 ?hf_20 ?hr_20 ?hQ_20 (Or.inl ⟨?hw_20, ?hy_20⟩) ?hrest_20
                case hi_20 => (simp only [List.getElem?_toArray, List.getElem?_cons_succ, List.getElem?_cons_zero]; exact rfl)
                case hs_20 => kernel_rfl
                case hf_20 => kernel_rfl
                case hr_20 => kernel_rfl
                case hQ_20 => exact fun _ _ _ h => h
                case hw_20 => rfl
                case hy_20 => (intro w _; go_simp; try with_reducible rfl)
                try simp only [Act.put, List.setIfInBounds_toArray, List.set_cons_zero, List.set_cons_succ]
                refine anyZ_free (i := 4) (oi := ?oi_21) (v := ?v_21) ?hi_21 ?hs_21 ?hf_21 ?hr_21 ?hQ_21 (Or.inl ⟨?hw_21, ?hy_21⟩) ?hrest_21
                case hi_21 => (simp only [List.getElem?_toArray, List.getElem?_cons_succ, List.getElem?_cons_zero]; exact rfl)
                case hs_21 => kernel_rfl
                case hf_21 => kernel_rfl
                case hr_21 => kernel_rfl
                case hQ_21 => exact fun _ _ _ h => h
                case hw_21 => rfl
                case hy_21 => (intro w _; go_simp; try with_reducible rfl)
                try simp only [Act.put, List.setIfInBounds_toArray, List.set_cons_zero, List.set_cons_succ]
                refine anyZ_take (i := 5) (oi := ?oi_22) (v := ?v_22) ?hi_22 ?hz_22 ?hs_22 ?hf_22 ?hr_22 ?hQ_22 (Or.inl ⟨?hw_22, ?hy_22⟩) ?hS_22 ?hrest_22
                case hi_22 => (simp only [List.getElem?_toArray, List.getElem?_cons_succ, List.getElem?_cons_zero]; exact rfl)
                case hz_22 => kernel_rfl
                case hs_22 => kernel_rfl
                case hf_22 => kernel_rfl
                case hr_22 => kernel_rfl
                case hQ_22 => exact fun _ _ _ h => h
                case hw_22 => rfl
                case hS_22 => assumption
                case hy_22 => (intro w hSw; (try dsimp only at hSw); go_simp; try with_reducible rfl)
                try simp only [Act.put, List.setIfInBounds_toArray, List.set_cons_zero, List.set_cons_succ]
                refine anyZ_free (i := 6) (oi := ?oi_23) (v := ?v_23) ?hi_23 ?hs_23 ?hf_23 ?hr_23 ?hQ_23 (Or.inl ⟨?hw_23, ?hy_23⟩) ?hrest_23
                case hi_23 => (simp only [List.getElem?_toArray, List.getElem?_cons_succ, List.getElem?_cons_zero]; exact rfl)
                case hs_23 => kernel_rfl
                case hf_23 => kernel_rfl
                case hr_23 => kernel_rfl
                case hQ_23 => exact fun _ _ _ h => h
                case hw_23 => rfl
                case hy_23 => (intro w _; go_simp; try with_reducible rfl)
                try simp only [Act.put, List.setIfInBounds_toArray, List.set_cons_zero, List.set_cons_succ]
                refine anyZ_free (i := 7) (oi := ?oi_24) (v := ?v_24) ?hi_24 ?hs_24 ?hf_24 ?hr_24 ?hQ_24 (Or.inl ⟨?hw_24, ?hy_24⟩) ?hrest_24
                case hi_24 => (simp only [List.getElem?_toArray, List.getElem?_cons_succ, List.getElem?_cons_zero]; exact rfl)
                case hs_24 => kernel_rfl
                case hf_24 => kernel_rfl
                case hr_24 => kernel_rfl
                case hQ_24 => exact fun _ _ _ h => h
                case hw_24 => rfl
                case hy_24 => (intro w _; go_simp; try with_reducible rfl)
                try simp only [Act.put, List.setIfInBounds_toArray, List.set_cons_zero, List.set_cons_succ]
                refine anyZ_free (i := 8) (oi := ?oi_25) (v := ?v_25) ?hi_25 ?hs_25 ?hf_25 ?hr_25 ?hQ_25 (Or.inl ⟨?hw_25, ?hy_25⟩) ?hrest_25
                case hi_25 => (simp only [List.getElem?_toArray, List.getElem?_cons_succ, List.getElem?_cons_zero]; exact rfl)
                case hs_25 => kernel_rfl
                case hf_25 => kernel_rfl
                case hr_25 => kernel_rfl
                case hQ_25 => exact fun _ _ _ h => h
                case hw_25 => rfl
                case hy_25 => (intro w _; go_simp; try with_reducible rfl)
                try simp only [Act.put, List.setIfInBounds_toArray, List.set_cons_zero, List.set_cons_succ]
                refine anyZ_free (i := 9) (oi := ?oi_26) (v := ?v_26) ?hi_26 ?hs_26 ?hf_26 ?hr_26 ?hQ_26 (Or.inl ⟨?hw_26, ?hy_26⟩) ?hrest_26
                case hi_26 => (simp only [List.getElem?_toArray, List.getElem?_cons_succ, List.getElem?_cons_zero]; exact rfl)
                case hs_26 => kernel_rfl
                case hf_26 => kernel_rfl
                case hr_26 => kernel_rfl
                case hQ_26 => exact fun _ _ _ h => h
                case hw_26 => rfl
                case hy_26 => (intro w _; go_simp; try with_reducible rfl)
                try simp only [Act.put, List.setIfInBounds_toArray, List.set_cons_zero, List.set_cons_succ]
                refine anyZ_take (i := 10) (oi := ?oi_27) (v := ?v_27) ?hi_27 ?hz_27 ?hs_27 ?hf_27 ?hr_27 ?hQ_27 (Or.inl ⟨?hw_27, ?hy_27⟩) ?hS_27 ?hrest_27
                case hi_27 => (simp only [List.getElem?_toArray, List.getElem?_cons_succ, List.getElem?_cons_zero]; exact rfl)
                case hz_27 => kernel_rfl
                case hs_27 => kernel_rfl
                case hf_27 => kernel_rfl
                case hr_27 => kernel_rfl
                case hQ_27 => exact fun _ _ _ h => h
                case hw_27 => rfl
                case hS_27 => assumption
                case hy_27 => (intro w hSw; (try dsimp only at hSw); go_simp; try with_reducible rfl)
                try simp only [Act.put, List.setIfInBounds_toArray, List.set_cons_zero, List.set_cons_succ]
                refine anyZ_free (i := 11) (oi := ?oi_28) (v := ?v_28) ?hi_28 ?hs_28 ?hf_28 ?hr_28 ?hQ_28 (Or.inl ⟨?hw_28, ?hy_28⟩) ?hrest_28
                case hi_28 => (simp only [List.getElem?_toArray, List.getElem?_cons_succ, List.getElem?_cons_zero]; exact rfl)
                case hs_28 => kernel_rfl
                case hf_28 => kernel_rfl
                case hr_28 => kernel_rfl
                case hQ_28 => exact fun _ _ _ h => h
                case hw_28 => rfl
                case hy_28 => (intro w _; go_simp; try with_reducible rfl)
                try simp only [Act.put, List.setIfInBounds_toArray, List.set_cons_zero, List.set_cons_succ]
                refine anyZ_free (i := 12) (oi := ?oi_29) (v := ?v_29) ?hi_29 ?hs_29 ?hf_29 ?hr_29 ?hQ_29 (Or.inl ⟨?hw_29, ?hy_29⟩) ?hrest_29
                case hi_29 => (simp only [List.getElem?_toArray, List.getElem?_cons_succ, List.getElem?_cons_zero]; exact rfl)
                case hs_29 => kernel_rfl
                case hf_29 => kernel_rfl
                case hr_29 => kernel_rfl
                case hQ_29 => exact fun _ _ _ h => h
                case hw_29 => rfl
                case hy_29 => (intro w _; go_simp; try with_reducible rfl)
                try simp only [Act.put, List.setIfInBounds_toArray, List.set_cons_zero, List.set_cons_succ]
                refine anyZ_ready (rs := [13]) (by kernel_rfl) (by simp) ?_
                refine (AllZ.last (o := ?o_30) ?ho_30 (by rfl) (fun K hK => ?st_30) AllZ.nil)
                case ho_30 => (simp only [List.getElem?_toArray, List.getElem?_cons_succ, List.getElem?_cons_zero]; exact rfl)
                case st_30 =>
                  go_simp
                  refine hK.out _ _ ?_
                  clear hK K
                  try simp only [Act.put, List.setIfInBounds_toArray, List.set_cons_zero, List.set_cons_succ]
                  refine anyZ_done (by kernel_rfl) ?_ _
                  refine NoPanic.normal ?_
                  have th4 : Hid (Arr ((wr.setCell ⟨H, i, none⟩ (.int .i64 (v : Nat))).drew) .i64 H 24 (foI x (i + 1))) := by
                    have q := (th.out.set (i := i) (z := v) hlt').drew
                    rw [← hvE, foI_succ, hvE] at q
                    exact q
                  have ta4 : Hid (Arr ((wr.setCell ⟨H, i, none⟩ (.int .i64 (v : Nat))).drew) .i64 ga 17 (Ob.loD x)) := (ta.out.far (by omega) _ _).drew
                  have hB4 : Below N w ((wr.setCell ⟨H, i, none⟩ (.int .i64 (v : Nat))).drew) := by (repeat' (first | (with_reducible first | exact Below.refl _ _ | assumption | refine Below.alloc ?_ ?_ _ | refine Below.drew ?_ | refine below_drewN ?_ _ | refine Below.setCell ?_ ?_ _ | refine below_via (by with_reducible assumption) ?_ ?_) | omega | (simp only [szs]; omega) | (simp only [szs] at *; omega)))
                  clear hHeld p0 p1 q0 q1
                  go_wp2
                  go_roundw
                  case rel => exact ⟨i + 1, by omega, by go_num, th4, ta4, hB4⟩
                  case measure => (simp only [intOf, Int.toNat_natCast]; omega)
              · have i2 : ¬ (i : Int) < 17 := by omega
                have hvE : Ob.foldD x i = u := by
                  unfold Ob.foldD
                  rw [if_pos hlt', if_neg h17, ← hu.out, ← hhE.out, hy.out]
                have th4 : Hid (Arr (wr.setCell ⟨H, i, none⟩ (.int .i64 (u : Nat))) .i64 H 24 (foI x (i + 1))) := by
                  have q := th.out.set (i := i) (z := u) hlt'
                  rw [← hvE, foI_succ, hvE] at q
                  exact q
                have ta4 : Hid (Arr (wr.setCell ⟨H, i, none⟩ (.int .i64 (u : Nat))) .i64 ga 17 (Ob.loD x)) := ta.out.far (by omega) _ _
                have hB4 : Below N w (wr.setCell ⟨H, i, none⟩ (.int .i64 (u : Nat))) := by (repeat' (first | (with_reducible first | exact Below.refl _ _ | assumption | refine Below.alloc ?_ ?_ _ | refine Below.drew ?_ | refine below_drewN ?_ _ | refine Below.setCell ?_ ?_ _ | refine below_via (by with_reducible assumption) ?_ ?_) | omega | (simp only [szs]; omega) | (simp only [szs] at *; omega)))
                clear ef hvE
                go_wp2
                go_roundw
                case rel => exact ⟨i + 1, by omega, by go_num, th4, ta4, hB4⟩
                case measure => (simp only [intOf, Int.toNat_natCast]; omega)
            · obtain rfl : i = 24 := by omega
              have thf : Hid (Arr wr .i64 H 24 (Ob.foldD x)) := th.out.congr (fun j hj => by unfold foI; rw [if_pos hj])
              have hbd : ∀ i, i < 24 → Ob.foldD x i ≤ 1152921504606846976 := fun i hi => by
                have h1 := Ob.loD_lt hd.out i
                have h2 := hhl.out i
                rw [hy.out] at h2
                unfold Ob.foldD
                split
                · split <;> omega
                · omega
              have cc : Calls Tryd.prog 26 #[.slice (some ⟨H, 0, none⟩) 24 24, .int .i64 40] wr fun e w' => e = .returned (.slice (some ⟨wr.heap.size, 0, none⟩) 40 40) ∧ Arr w' .i64 wr.heap.size 40 (Ob.carO (Ob.mask (Ob.foldD x) 24)) ∧ Below wr.heap.size wr w' := carried_core H 24 24 40 (by decide) (by decide) _ hbd wr thf.out.rd
              have lw := hB.size
              have lH' := thf.out.lt
              obtain ⟨G, hG⟩ : ∃ G, Hid (wr.heap.size = G) := ⟨_, rfl⟩
              rw [hG.out] at cc lw lH'
              have hval : Hid (Ob.valD (Ob.carO (Ob.mask (Ob.foldD x) 24)) 40 = Ob.valD (Ob.foldD x) 24) := by
                show _ = _
                rw [Ob.carO_val, mask_val]
                exact Nat.mod_eq_of_lt (Nat.lt_trans (Ob.fold_less hz.out hv0.out) (Ob.valD_lt fun i _ => hd.out i))
              clear hbd th ta thf
              go_wp2_with (go_at_call 26; with_reducible refine cc.mono ?_; rintro e W9 ⟨rfl, tx9, b9⟩)
              obtain ⟨x', hx'⟩ : ∃ x' : Nat → Nat, Hid (x' = fun i => if i < 40 then Ob.carO (Ob.mask (Ob.foldD x) 24) i else 0) := ⟨_, rfl⟩
              have tx9' : Hid (Arr W9 .i64 G 40 x') := tx9.congr (fun i hi => by rw [hx'.out]; simp [hi])
              have hd9 : Hid (∀ i, x' i < 256) := fun i => by rw [hx'.out]; show (if i < 40 then _ else 0) < 256; split; exact Ob.carO_lt _ _; decide
              have hz9 : Hid (x' 40 = 0) := by rw [hx'.out]; rfl
              have hv9 : Hid (Ob.valD x' 40 = Ob.valD (Ob.foldD x) 24) := by rw [← hval.out]; exact Ob.valD_congr fun i hi => by rw [hx'.out]; simp [hi]
              have hm9 : Hid (Ob.valD x' 40 % Ob.PP = T) := by show _ = _; rw [hv9.out, Ob.fold_mod hz.out, hm.out]
              have hB9 : Below N w W9 := below_via b9 hB (by have := hN.out; omega)
              go_roundw
              case rel => exact ⟨G, x', rfl, by have := hN.out; omega, tx9', hd9, hz9, hm9, hB9⟩
              case measure =>
                rw [hmeas.out, valW_arr tx9'.out, hv9.out]
                exact Ob.fold_less hz.out hv0.out
end Go.Proofs.YtdaonbfdcpkipaaDoor
