/-
  The walk of layer 7's statement on found points.
-/
import Derived.Test.YtoigpjaffggekaaDoorJ11
import Derived.Test.YtoigpjaffggekaaDoorJ10
namespace Go.Proofs.YtoigpjaffggekaaDoor
open Go.RowKit Go.Proofs
set_option linter.unusedVariables false
set_option linter.unusedSimpArgs false
attribute [local go_sem ↓] Go.wp_at_zero Go.wp_at_succ

theorem equal_same (w : World) (x y : Int) : (Op.equalIn 10000 25 (.agg #[.int .u64 x, .int .u64 y]) (.agg #[.int .u64 x, .int .u64 y])).run Tryd.prog w = .ok true w := by
  rw [equal_Ed]; simp
attribute [local go_sem] equal_same

set_option maxRecDepth 4000 in
set_option maxHeartbeats 4000000 in
theorem finds_long (s : ByteArray) (hs : 8 < s.size) (n : Int) (w : World)
   (cf : ∀ w, Calls Tryd.prog 7 #[.string s, .int .u64 n] w fun e w' => e = .returned (.tuple #[.agg #[.int .u64 0, .int .u64 0], .iface 30 (.int .i64 5)]) ∧ Below w.heap.size w w') :
    Calls Tryd.prog 3 #[.string s, .int .u64 n] w fun e w' => e = .returned (.bool true) ∧ Below w.heap.size w w' := by
  have cu := upW
  have ec := fun w => eql_code w 5 5
  have h1 : (8 : Int) < (s.size : Int) := by omega
  clear hs
  go_enter Tryd.func3, Tryd.ntmps3
  go_wp2_with (first | (go_at_call 6; first | (with_reducible refine (cu _).mono ?_; rintro e w_cu ⟨rfl, b_cu⟩; have z_cu := b_cu.size; (try simp only [szs] at z_cu))) | (go_at_call 7; first | (with_reducible refine (cf _).mono ?_; rintro e w_cf ⟨rfl, b_cf⟩; have z_cf := b_cf.size; (try simp only [szs] at z_cf))))
  go_ret
  exact ⟨rfl, by (repeat' (first | (with_reducible first | exact Below.refl _ _ | assumption | refine Below.alloc ?_ ?_ _ | refine Below.drew ?_ | refine below_drewN ?_ _ | refine Below.setCell ?_ ?_ _ | refine below_via (by with_reducible assumption) ?_ ?_) | omega | (simp only [szs]; omega) | (simp only [szs] at *; omega)))⟩
set_option maxRecDepth 4000 in
set_option maxHeartbeats 4000000 in
theorem finds_none (s : ByteArray) (hs : s.size ≤ 8) (n : Int) (w : World)
   (cf : ∀ w1, Below w.heap.size w w1 → Calls Tryd.prog 7 #[.string s, .int .u64 n] w1 fun e w' => e = .returned (.tuple #[.agg #[.int .u64 0, .int .u64 0], .iface 30 (.int .i64 2)]) ∧ Below w1.heap.size w1 w')
   (cg : ∀ w, Calls Tryd.prog 8 #[.string s, .int .u64 n] w fun e w' => e = .returned (.tuple #[.int .u64 0, .int .i64 (-1)]) ∧ Below w.heap.size w w') :
    Calls Tryd.prog 3 #[.string s, .int .u64 n] w fun e w' => e = .returned (.bool true) ∧ Below w.heap.size w w' := by
  have cu := upW
  have ec := fun w => eql_code w 2 2
  have h1 : ¬ (8 : Int) < (s.size : Int) := by omega
  clear hs
  go_enter Tryd.func3, Tryd.ntmps3
  go_wp2_with (first | (first | (go_at_call 6; first | (with_reducible refine (cu _).mono ?_; rintro e w_cu ⟨rfl, b_cu⟩; have z_cu := b_cu.size; (try simp only [szs] at z_cu); (try (have q_cu_0 := own2 b_cu (w_cf.heap.size) (by first | omega | (simp only [szs]; omega)))))) | (go_at_call 8; first | (with_reducible refine (cg _).mono ?_; rintro e w_cg ⟨rfl, b_cg⟩; have z_cg := b_cg.size; (try simp only [szs] at z_cg); (try (have q_cg_0 := own2 b_cg (w_cf.heap.size) (by first | omega | (simp only [szs]; omega))))))) | (go_at_call 7; (with_reducible refine (cf _ (by (repeat' (first | (with_reducible first | exact Below.refl _ _ | assumption | refine Below.alloc ?_ ?_ _ | refine Below.drew ?_ | refine below_drewN ?_ _ | refine Below.setCell ?_ ?_ _ | refine below_via (by with_reducible assumption) ?_ ?_) | omega | (simp only [szs]; omega) | (simp only [szs] at *; omega))))).mono ?_); rintro e w_cf ⟨rfl, b_cf⟩; have z_cf := b_cf.size))
  go_ret
  exact ⟨rfl, by (repeat' (first | (with_reducible first | exact Below.refl _ _ | assumption | refine Below.alloc ?_ ?_ _ | refine Below.drew ?_ | refine below_drewN ?_ _ | refine Below.setCell ?_ ?_ _ | refine below_via (by with_reducible assumption) ?_ ?_) | omega | (simp only [szs]; omega) | (simp only [szs] at *; omega)))⟩
set_option maxRecDepth 4000 in
set_option maxHeartbeats 4000000 in
theorem finds_low (s : ByteArray) (hs : s.size ≤ 8) (n : Int) (px py : Int) (y k rx x : Nat) (w : World) (hk : k < 128) (hyl : y < 18446744073709551616) (hx1 : rx ≤ 144115188143882240) (hx : rx = x)
   (cf : ∀ w1, Below w.heap.size w w1 → Calls Tryd.prog 7 #[.string s, .int .u64 n] w1 fun e w' => e = .returned (.tuple #[.agg #[.int .u64 px, .int .u64 py], .nilIface]) ∧ Below w1.heap.size w1 w')
   (cg : ∀ w, Calls Tryd.prog 8 #[.string s, .int .u64 n] w fun e w' => e = .returned (.tuple #[.int .u64 y, .int .i64 k]) ∧ Below w.heap.size w w')
   (cr : ∀ (g : Nat) (w1 : World), Below w.heap.size w w1 → Bys w1 g 0 8 (Ob.byteAt y) → Calls Tryd.prog 9 #[.slice (some ⟨g, 0, none⟩) 8 8] w1 fun e w' => e = .returned (.tuple #[.agg #[.int .u64 rx, .int .u64 y], .nilIface]) ∧ Below w1.heap.size w1 w')
   (ct : ∀ w, Calls Tryd.prog 11 #[.agg #[.int .u64 x, .int .u64 y], .int .u64 4] w fun e w' => e = .returned (.agg #[.int .u64 px, .int .u64 py]) ∧ Below w.heap.size w w')
   (cz : ∀ w, Calls Tryd.prog 12 #[] w fun e w' => e = .returned (.agg #[.int .u64 0, .int .u64 1]) ∧ Below w.heap.size w w')
   (he : ∀ w, (Op.equalIn 10000 25 (.agg #[.int .u64 px, .int .u64 py]) (.agg #[.int .u64 0, .int .u64 1])).run Tryd.prog w = .ok false w) :
    Calls Tryd.prog 3 #[.string s, .int .u64 n] w fun e w' => e = .returned (.bool true) ∧ Below w.heap.size w w' := by
  have cu := upW
  have rb := fun w => rbytesW y hyl w
  have h1 : ¬ (8 : Int) < (s.size : Int) := by omega
  have h2 : ¬ (k : Int) < 0 := by omega
  subst hx
  have h3 : decide ((144115188143882240 : Int) < (rx : Int)) = false := decide_eq_false (by omega)
  clear hx1
  clear hs
  go_enter Tryd.func3, Tryd.ntmps3
  go_upto_region 5 with (first | (first | (go_at_call 6; first | (with_reducible refine (cu _).mono ?_; rintro e w_cu ⟨rfl, b_cu⟩; have z_cu := b_cu.size; (try simp only [szs] at z_cu)))) | (go_at_call 7; (with_reducible refine (cf _ (by (repeat' (first | (with_reducible first | exact Below.refl _ _ | assumption | refine Below.alloc ?_ ?_ _ | refine Below.drew ?_ | refine below_drewN ?_ _ | refine Below.setCell ?_ ?_ _ | refine below_via (by with_reducible assumption) ?_ ?_) | omega | (simp only [szs]; omega) | (simp only [szs] at *; omega))))).mono ?_); rintro e w_cf ⟨rfl, b_cf⟩; have z_cf := b_cf.size))
  have tp : Two (w_cf.alloc (.cells #[.int .u64 px, .int .u64 py] 25)) w_cf.heap.size (.int .u64 px) (.int .u64 py) := by (repeat' (first | (with_reducible first | assumption | exact Two.own (by with_reducible assumption) | refine Two.set ?_ _ _ | refine Own2.set ?_ _ _ | refine Two.drew ?_ | refine Two.drewN ?_ _ | refine Own2.drew ?_ | refine Own2.drewN ?_ _ | (refine Two.new ?_; simp only [szs]; done) | (refine Own2.new ?_; simp only [szs]; done) | refine Two.alloc ?_ _ | refine Own2.alloc ?_ _ | refine Two.far ?_ ?_ _ _ | refine Own2.far ?_ ?_ _ _ | refine Two.via (by with_reducible assumption) ?_ ?_ | refine Own2.via (by with_reducible assumption) ?_ ?_) | omega | (simp only [szs]; omega)))
  have hB : Below w.heap.size w (w_cf.alloc (.cells #[.int .u64 px, .int .u64 py] 25)) := by (repeat' (first | (with_reducible first | exact Below.refl _ _ | assumption | refine Below.alloc ?_ ?_ _ | refine Below.drew ?_ | refine below_drewN ?_ _ | refine Below.setCell ?_ ?_ _ | refine below_via (by with_reducible assumption) ?_ ?_) | omega | (simp only [szs]; omega) | (simp only [szs] at *; omega)))
  generalize (w_cf.alloc (.cells #[.int .u64 px, .int .u64 py] 25)) = W at tp hB ⊢
  generalize w_cf.heap.size = bp at tp ⊢
  clear b_cf z_cf b_cu z_cu cu cf
  go_upto_region 14 with (first | (go_at_call 8; (with_reducible refine (cg _).mono ?_); rintro e w2 ⟨rfl, b2⟩; have hB2 : Below w.heap.size w w2 := below_via b2 hB hB.size; have tp2 := tp.below b2 tp.lt) | (go_at_call 10; (with_reducible refine (rb _).mono ?_); rintro e w3 ⟨rfl, y3, b3⟩; have hB3 : Below w.heap.size w w3 := below_via b3 hB2 hB2.size; have tp3 := tp2.below b3 tp2.lt) | (go_at_call 9; (with_reducible refine (cr _ _ hB3 y3).mono ?_); rintro e w4 ⟨rfl, b4⟩; have hB4 : Below w.heap.size w w4 := below_via b4 hB3 hB3.size; have tp4 := tp3.below b4 tp3.lt))
  have tp5 : Two (w4.alloc (.cells #[.int .u64 rx, .int .u64 y] 25)) bp (.int .u64 px) (.int .u64 py) := tp4.alloc _
  have hB5 : Below w.heap.size w (w4.alloc (.cells #[.int .u64 rx, .int .u64 y] 25)) := hB4.alloc hB4.size _
  generalize (w4.alloc (.cells #[.int .u64 rx, .int .u64 y] 25)) = W5 at tp5 hB5 ⊢
  generalize w4.heap.size = bq at *
  clear cg cr rb b2 hB2 tp2 b3 hB3 tp3 b4 hB4 tp4 tp hB y3
  have ⟨d1, d2, d3, d4, d5⟩ := tp5
  have zB := hB5.size
  go_region_held3 (fun w' => w'.cell? ⟨bp, 0, none⟩ = some (.int .u64 px) ∧ w'.cell? ⟨bp, 1, none⟩ = some (.int .u64 py)) (go_keep)
    ((first | (go_at_call 11; first | (with_reducible refine (ct _).mono ?_; rintro e w_ct ⟨rfl, b_ct⟩; have z_ct := b_ct.size; (try simp only [szs] at z_ct); (try (have q_ct_0 := own2 b_ct (bp) (by first | omega | (simp only [szs]; omega)))))) | (go_at_call 12; first | (with_reducible refine (cz _).mono ?_; rintro e w_cz ⟨rfl, b_cz⟩; have z_cz := b_cz.size; (try simp only [szs] at z_cz); (try (have q_cz_0 := own2 b_cz (bp) (by first | omega | (simp only [szs]; omega))))))))
  go_wp2
  go_ret
  exact ⟨rfl, by (repeat' (first | (with_reducible first | exact Below.refl _ _ | assumption | refine Below.alloc ?_ ?_ _ | refine Below.drew ?_ | refine below_drewN ?_ _ | refine Below.setCell ?_ ?_ _ | refine below_via (by with_reducible assumption) ?_ ?_) | omega | (simp only [szs]; omega) | (simp only [szs] at *; omega)))⟩
set_option maxRecDepth 4000 in
set_option maxHeartbeats 4000000 in
theorem finds_high (s : ByteArray) (hs : s.size ≤ 8) (n : Int) (px py : Int) (y k rx x : Nat) (w : World) (hk : k < 128) (hyl : y < 18446744073709551616) (hx1 : 144115188143882240 < rx) (hx : rx + x = 288230376287764481)
   (cf : ∀ w1, Below w.heap.size w w1 → Calls Tryd.prog 7 #[.string s, .int .u64 n] w1 fun e w' => e = .returned (.tuple #[.agg #[.int .u64 px, .int .u64 py], .nilIface]) ∧ Below w1.heap.size w1 w')
   (cg : ∀ w, Calls Tryd.prog 8 #[.string s, .int .u64 n] w fun e w' => e = .returned (.tuple #[.int .u64 y, .int .i64 k]) ∧ Below w.heap.size w w')
   (cr : ∀ (g : Nat) (w1 : World), Below w.heap.size w w1 → Bys w1 g 0 8 (Ob.byteAt y) → Calls Tryd.prog 9 #[.slice (some ⟨g, 0, none⟩) 8 8] w1 fun e w' => e = .returned (.tuple #[.agg #[.int .u64 rx, .int .u64 y], .nilIface]) ∧ Below w1.heap.size w1 w')
   (ct : ∀ w, Calls Tryd.prog 11 #[.agg #[.int .u64 x, .int .u64 y], .int .u64 4] w fun e w' => e = .returned (.agg #[.int .u64 px, .int .u64 py]) ∧ Below w.heap.size w w')
   (cz : ∀ w, Calls Tryd.prog 12 #[] w fun e w' => e = .returned (.agg #[.int .u64 0, .int .u64 1]) ∧ Below w.heap.size w w')
   (he : ∀ w, (Op.equalIn 10000 25 (.agg #[.int .u64 px, .int .u64 py]) (.agg #[.int .u64 0, .int .u64 1])).run Tryd.prog w = .ok false w) :
    Calls Tryd.prog 3 #[.string s, .int .u64 n] w fun e w' => e = .returned (.bool true) ∧ Below w.heap.size w w' := by
  have cu := upW
  have rb := fun w => rbytesW y hyl w
  have h1 : ¬ (8 : Int) < (s.size : Int) := by omega
  have h2 : ¬ (k : Int) < 0 := by omega
  have h3 : (144115188143882240 : Int) < (rx : Int) := by omega
  have h4 : (288230376287764481 : Int) - (rx : Int) = (x : Int) := by omega
  have h5 : x < 18446744073709551616 := by omega
  clear hx1 hx
  clear hs
  go_enter Tryd.func3, Tryd.ntmps3
  go_upto_region 5 with (first | (first | (go_at_call 6; first | (with_reducible refine (cu _).mono ?_; rintro e w_cu ⟨rfl, b_cu⟩; have z_cu := b_cu.size; (try simp only [szs] at z_cu)))) | (go_at_call 7; (with_reducible refine (cf _ (by (repeat' (first | (with_reducible first | exact Below.refl _ _ | assumption | refine Below.alloc ?_ ?_ _ | refine Below.drew ?_ | refine below_drewN ?_ _ | refine Below.setCell ?_ ?_ _ | refine below_via (by with_reducible assumption) ?_ ?_) | omega | (simp only [szs]; omega) | (simp only [szs] at *; omega))))).mono ?_); rintro e w_cf ⟨rfl, b_cf⟩; have z_cf := b_cf.size))
  have tp : Two (w_cf.alloc (.cells #[.int .u64 px, .int .u64 py] 25)) w_cf.heap.size (.int .u64 px) (.int .u64 py) := by (repeat' (first | (with_reducible first | assumption | exact Two.own (by with_reducible assumption) | refine Two.set ?_ _ _ | refine Own2.set ?_ _ _ | refine Two.drew ?_ | refine Two.drewN ?_ _ | refine Own2.drew ?_ | refine Own2.drewN ?_ _ | (refine Two.new ?_; simp only [szs]; done) | (refine Own2.new ?_; simp only [szs]; done) | refine Two.alloc ?_ _ | refine Own2.alloc ?_ _ | refine Two.far ?_ ?_ _ _ | refine Own2.far ?_ ?_ _ _ | refine Two.via (by with_reducible assumption) ?_ ?_ | refine Own2.via (by with_reducible assumption) ?_ ?_) | omega | (simp only [szs]; omega)))
  have hB : Below w.heap.size w (w_cf.alloc (.cells #[.int .u64 px, .int .u64 py] 25)) := by (repeat' (first | (with_reducible first | exact Below.refl _ _ | assumption | refine Below.alloc ?_ ?_ _ | refine Below.drew ?_ | refine below_drewN ?_ _ | refine Below.setCell ?_ ?_ _ | refine below_via (by with_reducible assumption) ?_ ?_) | omega | (simp only [szs]; omega) | (simp only [szs] at *; omega)))
  generalize (w_cf.alloc (.cells #[.int .u64 px, .int .u64 py] 25)) = W at tp hB ⊢
  generalize w_cf.heap.size = bp at tp ⊢
  clear b_cf z_cf b_cu z_cu cu cf
  go_upto_region 14 with (first | (go_at_call 8; (with_reducible refine (cg _).mono ?_); rintro e w2 ⟨rfl, b2⟩; have hB2 : Below w.heap.size w w2 := below_via b2 hB hB.size; have tp2 := tp.below b2 tp.lt) | (go_at_call 10; (with_reducible refine (rb _).mono ?_); rintro e w3 ⟨rfl, y3, b3⟩; have hB3 : Below w.heap.size w w3 := below_via b3 hB2 hB2.size; have tp3 := tp2.below b3 tp2.lt) | (go_at_call 9; (with_reducible refine (cr _ _ hB3 y3).mono ?_); rintro e w4 ⟨rfl, b4⟩; have hB4 : Below w.heap.size w w4 := below_via b4 hB3 hB3.size; have tp4 := tp3.below b4 tp3.lt))
  have tp5 : Two (w4.alloc (.cells #[.int .u64 rx, .int .u64 y] 25)) bp (.int .u64 px) (.int .u64 py) := tp4.alloc _
  have hB5 : Below w.heap.size w (w4.alloc (.cells #[.int .u64 rx, .int .u64 y] 25)) := hB4.alloc hB4.size _
  generalize (w4.alloc (.cells #[.int .u64 rx, .int .u64 y] 25)) = W5 at tp5 hB5 ⊢
  generalize w4.heap.size = bq at *
  clear cg cr rb b2 hB2 tp2 b3 hB3 tp3 b4 hB4 tp4 tp hB y3
  have ⟨d1, d2, d3, d4, d5⟩ := tp5
  have zB := hB5.size
  go_region_held3 (fun w' => w'.cell? ⟨bp, 0, none⟩ = some (.int .u64 px) ∧ w'.cell? ⟨bp, 1, none⟩ = some (.int .u64 py)) (go_keep)
    ((first | (go_at_call 11; first | (with_reducible refine (ct _).mono ?_; rintro e w_ct ⟨rfl, b_ct⟩; have z_ct := b_ct.size; (try simp only [szs] at z_ct); (try (have q_ct_0 := own2 b_ct (bp) (by first | omega | (simp only [szs]; omega)))))) | (go_at_call 12; first | (with_reducible refine (cz _).mono ?_; rintro e w_cz ⟨rfl, b_cz⟩; have z_cz := b_cz.size; (try simp only [szs] at z_cz); (try (have q_cz_0 := own2 b_cz (bp) (by first | omega | (simp only [szs]; omega))))))))
  go_wp2
  go_ret
  exact ⟨rfl, by (repeat' (first | (with_reducible first | exact Below.refl _ _ | assumption | refine Below.alloc ?_ ?_ _ | refine Below.drew ?_ | refine below_drewN ?_ _ | refine Below.setCell ?_ ?_ _ | refine below_via (by with_reducible assumption) ?_ ?_) | omega | (simp only [szs]; omega) | (simp only [szs] at *; omega)))⟩

theorem edwardsFinds_walk (s : ByteArray) (a1 : Int) (w : World) (hs : s.size ≤ maxLen) (w1 : (Lit.int .u64 a1).wf = true) (hL : TabOk w ∧ Tabs w) :
    Calls Tryd.prog 3 #[.string s, .int .u64 a1] w fun e w' => e = .returned (.bool true) ∧ Below w.heap.size w w' := by
  obtain ⟨n, rfl, hn⟩ := word_of w1
  obtain ⟨hT, hTs⟩ := hL
  by_cases h8 : s.size ≤ 8
  · have cf := fun (w1 : World) (h : Below w.heap.size w w1) => efindW s h8 n hn w1 (hT.below h hT.lt) (hTs.below h hTs.lt)
    have cg := gfoundW s h8 n hn
    cases hf : Ob.firstG (findY s n) 128 0 with
    | none =>
      rw [hf] at cf cg
      exact finds_none s h8 n w cf cg
    | some k =>
      have hk : k < 128 := by have := Ob.firstG_lt (findY s n) 128 0 k hf; omega
      have hg := Ob.good_of (Ob.firstG_good _ _ _ _ hf)
      rw [hf] at cf cg
      have hyl := findY_lt s n k
      have hy64 : findY s n k < 18446744073709551616 := Nat.lt_trans hyl (by decide)
      have hon : Ob.onG (Ob.lowP (findY s n k)) := Ob.rtX_on hg.1
      have hz : isZ (Ob.gmul (Ob.lowP (findY s n k)) 4) = false := decide_eq_false ((Ob.good_four hg.1).mpr hg)
      have he := fun w => eq_zero w (Ob.gmul (Ob.lowP (findY s n k)) 4)
      rw [hz] at he
      have ct := gtimesW hon 4 (by decide)
      have e1 : (Ob.toG (Ob.rtX (findY s n k))).val = Ob.rtX (findY s n k) := Nat.mod_eq_of_lt (Ob.rtX_lt hg.1)
      have e2 : (Ob.toG (findY s n k)).val = findY s n k := Nat.mod_eq_of_lt hyl
      have eV : edV (Ob.lowP (findY s n k)) = .agg #[.int .u64 (Ob.rtX (findY s n k) : Nat), .int .u64 (findY s n k : Nat)] := by
        show Value.agg #[.int .u64 ((Ob.toG (Ob.rtX (findY s n k))).val : Nat), .int .u64 ((Ob.toG (findY s n k)).val : Nat)] = _
        rw [e1, e2]
      rw [eV] at ct
      have hlow : Ob.lowY (findY s n k) = findY s n k := by unfold Ob.lowY; simp only [Ob.RE] at hyl; omega
      have htop : Ob.topO (findY s n k) = 0 := by unfold Ob.topO; simp only [Ob.RE] at hyl; omega
      have hH : Ob.Has (findY s n k) := ⟨by rw [hlow]; exact hyl, by rw [hlow]; exact hg.1, Or.inr htop⟩
      obtain ⟨u, hu, h1, h2, h3⟩ := Ob.rd_yes hy64 hH
      have hN := Ob.edN_of u (findY s n k) h1 h2 hy64
      have cr := fun (g : Nat) (w1 : World) (hb : Below w.heap.size w w1) (hB : Bys w1 g 0 8 (Ob.byteAt (findY s n k))) => eread_yes g 0 8 (Ob.byteAt (findY s n k)) (Ob.byteAt_lt _) w1 (hT.below hb hT.lt) hB hu ((Ob.num_bytes _ hy64).trans hN.symm)
      have eU : edV u = .agg #[.int .u64 (u.1.val : Nat), .int .u64 (findY s n k : Nat)] := by
        unfold edV; rw [h1, hlow]
      rw [eU] at cr
      have hX : Ob.rtX (findY s n k) = min u.1.val (Ob.R - u.1.val) := by
        have hsq := (Ob.on_sqr u.1 u.2).mp hu
        have ey : u.2 = Ob.toG (findY s n k) := Fin.ext (by rw [h1, hlow, e2])
        rw [ey] at hsq
        have := congrArg Fin.val hsq
        rw [Fin.val_mul] at this
        exact Ob.lesser u.1.isLt (this.trans (Nat.mod_eq_of_lt (Ob.gsqr (Ob.toG (findY s n k))).isLt).symm)
      have hR : Ob.R = 288230376287764481 := rfl
      have hul := Ob.RE_small u.1
      by_cases hc : u.1.val ≤ 144115188143882240
      · exact finds_low s h8 n _ _ (findY s n k) k u.1.val (Ob.rtX (findY s n k)) w hk hy64 hc (by rw [hX, hR]; omega) cf cg cr ct lzeroW he
      · exact finds_high s h8 n _ _ (findY s n k) k u.1.val (Ob.rtX (findY s n k)) w hk hy64 (by omega) (by rw [hX, hR]; omega) cf cg cr ct lzeroW he
  · exact finds_long s (by omega) n w (fun w => efind_long s (by omega) n hn w)
end Go.Proofs.YtoigpjaffggekaaDoor
