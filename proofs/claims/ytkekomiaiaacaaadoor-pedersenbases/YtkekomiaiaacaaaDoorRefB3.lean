/-
  The document's own digest, walked: bytes as words.
-/
import Derived.Test.YtkekomiaiaacaaaDoorJ3
import Derived.Deep.DeepCutAuto
import Derived.OwnWalk
namespace Go.Proofs.YtkekomiaiaacaaaDoor
open Go.RowKit Go.Proofs
set_option linter.unusedVariables false
set_option linter.unusedSimpArgs false
attribute [local go_sem ↓] Go.wp_at_zero Go.wp_at_succ

theorem wordInfo : ∃ i, Tryd.prog.info? 64 = some i ∧ i.size = 1 ∧ i.bytes = 4 ∧ i.zero = some (.int .u32 0) := by
  have h : (Tryd.prog.info? 64).map (fun i => (i.size, i.bytes, i.zero)) = some (1, 4, some (.int .u32 0)) := by kernel_rfl
  cases hi : Tryd.prog.info? 64 with
  | none => rw [hi] at h; cases h
  | some i =>
    rw [hi] at h
    simp only [Option.map_some, Option.some.injEq, Prod.mk.injEq] at h
    exact ⟨i, rfl, h.1, h.2.1, h.2.2⟩

set_option maxHeartbeats 4000000 in
theorem rwords_core (b off n k c : Nat) (hnk : 4 * k = n) (z : Nat → Nat) (hz : ∀ i, z i < 256) (hk : k ≤ 1000000) (w : World) (hY : Bys w b off n z) :
    Calls Tryd.prog 32 #[.slice (some ⟨b, off, none⟩) n c] w fun e w' => ∃ v, e = .returned v ∧ w'.ownsRow w.heap.size 64 1 v k (arrL .u32 (wordAt z) k) ∧ Below w.heap.size w w' := by
  obtain ⟨i0, hi, hz1, hz2, hz0⟩ := wordInfo
  have hY' : Hid (Bys w b off n z) := hY
  have hn' : Hid (4 * k = n) := hnk
  have ln : (n : Int) ≤ 4000000 := by omega
  clear hnk
  have hz' : Hid (∀ i, z i < 256) := hz
  clear hY hz
  have hown0 : w.ownsRow w.heap.size 64 1 (.slice none 0 0) 0 (arrL .u32 (wordAt z) 0) := ⟨rfl, Or.inl ⟨rfl, rfl⟩⟩
  go_enter Tryd.func32, Tryd.ntmps32
  go_wp2
  go_loopw [3, 4] (fun s3 s4 wr => ∃ (j : Nat), j ≤ k ∧ s4 = .int .i64 ((4 * j : Nat) : Int) ∧ Hid (wr.ownsRow w.heap.size 64 1 s3 j (arrL .u32 (wordAt z) j)) ∧ Below w.heap.size w wr) (fun _ s4 _ => n - (intOf s4).toNat)
  case atStart => exact ⟨0, by omega, rfl, hown0, Below.refl _ _⟩
  case round =>
    clear hown0
    obtain ⟨j, hj, rfl, hown, hB⟩ := hrel
    have l0 := hB.size
    have hnk := hn'.out
    by_cases hlt : j < k
    · have y := hY'.out.below hB hY'.out.lt
      have y0 := y.at_ (4 * j) (by omega)
      have y1 := y.at_ (4 * j + 1) (by omega)
      have y2 := y.at_ (4 * j + 2) (by omega)
      have y3 := y.at_ (4 * j + 3) (by omega)
      have b0 := hz'.out (4 * j)
      have b1 := hz'.out (4 * j + 1)
      have b2 := hz'.out (4 * j + 2)
      have b3 := hz'.out (4 * j + 3)
      have hw : Hid (arrL .u32 (wordAt z) j ++ [.int .u32 ((z (4 * j) + 256 * z (4 * j + 1) + 65536 * z (4 * j + 2) + 16777216 * z (4 * j + 3) : Nat) : Int)] = arrL .u32 (wordAt z) (j + 1)) := by
        show _ = _
        unfold arrL
        rw [List.range_succ, List.map_append]
        rfl
      obtain ⟨i, hi4⟩ : ∃ i, Hid (4 * j = i) := ⟨_, rfl⟩
      rw [hi4.out] at y0 y1 y2 y3 b0 b1 b2 b3 hw
      have li : i + 3 < n := by have := hi4.out; omega
      rw [hi4.out]
      clear hnk
      have hkeep : Hid (∀ w1, Below w.heap.size w w1 → w1.cell? ⟨b, off + i, none⟩ = some (.int .u8 (z i : Nat)) ∧ w1.cell? ⟨b, off + (i + 1), none⟩ = some (.int .u8 (z (i + 1) : Nat)) ∧ w1.cell? ⟨b, off + (i + 2), none⟩ = some (.int .u8 (z (i + 2) : Nat)) ∧ w1.cell? ⟨b, off + (i + 3), none⟩ = some (.int .u8 (z (i + 3) : Nat))) := fun w1 h => by
        have y' := hY'.out.below h hY'.out.lt
        exact ⟨y'.at_ i (by omega), y'.at_ (i + 1) (by omega), y'.at_ (i + 2) (by omega), y'.at_ (i + 3) (by omega)⟩
      generalize z i = q0 at *
      generalize z (i + 1) = q1 at *
      generalize z (i + 2) = q2 at *
      generalize z (i + 3) = q3 at *
      obtain ⟨i1, hi1⟩ : ∃ i1, Hid (i + 1 = i1) := ⟨_, rfl⟩
      obtain ⟨i2, hi2⟩ : ∃ i2, Hid (i + 2 = i2) := ⟨_, rfl⟩
      obtain ⟨i3, hi3⟩ : ∃ i3, Hid (i + 3 = i3) := ⟨_, rfl⟩
      rw [hi1.out, hi2.out, hi3.out] at hkeep
      rw [hi1.out] at y1
      rw [hi2.out] at y2
      rw [hi3.out] at y3
      have e1 : (i : Int) + 1 = (i1 : Int) := by have := hi1.out; omega
      have e2 : (i : Int) + 2 = (i2 : Int) := by have := hi2.out; omega
      have e3 : (i : Int) + 3 = (i3 : Int) := by have := hi3.out; omega
      have f0 : (i3 : Int) < (n : Int) := by omega
      have f1 : (i2 : Int) < (n : Int) := by omega
      have f2 : (i1 : Int) < (n : Int) := by omega
      have f3 : (i : Int) < (n : Int) := by omega
      have w1 : IntKind.i64.wrap (i1 : Int) = (i1 : Int) := by rw [IntKind.wrap_i64]; omega
      have w2 : IntKind.i64.wrap (i2 : Int) = (i2 : Int) := by rw [IntKind.wrap_i64]; omega
      have w3 : IntKind.i64.wrap (i3 : Int) = (i3 : Int) := by rw [IntKind.wrap_i64]; omega
      have g0 : (0 : Int) ≤ (i : Int) := by omega
      have g1 : (0 : Int) ≤ (i1 : Int) := by omega
      have g2 : (0 : Int) ≤ (i2 : Int) := by omega
      have g3 : (0 : Int) ≤ (i3 : Int) := by omega
      have c0 : IntKind.u32.wrap (q0 : Int) = (q0 : Int) := by rw [IntKind.wrap_u32]; omega
      have c1 : IntKind.u32.wrap (q1 : Int) = (q1 : Int) := by rw [IntKind.wrap_u32]; omega
      have c2 : IntKind.u32.wrap (q2 : Int) = (q2 : Int) := by rw [IntKind.wrap_u32]; omega
      have c3 : IntKind.u32.wrap (q3 : Int) = (q3 : Int) := by rw [IntKind.wrap_u32]; omega
      obtain ⟨r1, p1, k1⟩ : ∃ r : Nat, IntKind.u32.wrap (256 * (q1 : Int)) = (r : Int) ∧ Hid (r = 256 * q1) := ⟨256 * q1, by rw [IntKind.wrap_u32]; omega, rfl⟩
      obtain ⟨r2, p2, k2⟩ : ∃ r : Nat, IntKind.u32.wrap (65536 * (q2 : Int)) = (r : Int) ∧ Hid (r = 65536 * q2) := ⟨65536 * q2, by rw [IntKind.wrap_u32]; omega, rfl⟩
      obtain ⟨r3, p3, k3⟩ : ∃ r : Nat, IntKind.u32.wrap (16777216 * (q3 : Int)) = (r : Int) ∧ Hid (r = 16777216 * q3) := ⟨16777216 * q3, by rw [IntKind.wrap_u32]; omega, rfl⟩
      have m1 := k1.out
      have m2 := k2.out
      have m3 := k3.out
      obtain ⟨t1, s1, n1⟩ : ∃ r : Nat, IntKind.u32.wrap ((q0 : Int) + (r1 : Int)) = (r : Int) ∧ Hid (r = q0 + r1) := ⟨q0 + r1, by rw [IntKind.wrap_u32]; omega, rfl⟩
      have m4 := n1.out
      obtain ⟨t2, s2, n2⟩ : ∃ r : Nat, IntKind.u32.wrap ((t1 : Int) + (r2 : Int)) = (r : Int) ∧ Hid (r = t1 + r2) := ⟨t1 + r2, by rw [IntKind.wrap_u32]; omega, rfl⟩
      have m5 := n2.out
      obtain ⟨X, s3, n3⟩ : ∃ r : Nat, IntKind.u32.wrap ((t2 : Int) + (r3 : Int)) = (r : Int) ∧ Hid (r = t2 + r3) := ⟨t2 + r3, by rw [IntKind.wrap_u32]; omega, rfl⟩
      have hX : Hid (q0 + 256 * q1 + 65536 * q2 + 16777216 * q3 = X) := by show _ = _; have := n3.out; omega
      rw [hX.out] at hw
      clear m1 m2 m3 m4 m5
      have hb1 : Below wr.heap.size wr (wr.alloc (.cells #[.int .u32 (X : Nat)] 64)).drew := by clear hB; (repeat' (first | (with_reducible first | exact Below.refl _ _ | assumption | refine Below.alloc ?_ ?_ _ | refine Below.drew ?_ | refine below_drewN ?_ _ | refine Below.setCell ?_ ?_ _ | refine below_via (by with_reducible assumption) ?_ ?_) | omega | (simp only [szs]; omega) | (simp only [szs] at *; omega)))
      have hb0 : Below w.heap.size w (wr.alloc (.cells #[.int .u32 (X : Nat)] 64)).drew := by clear hb1; (repeat' (first | (with_reducible first | exact Below.refl _ _ | assumption | refine Below.alloc ?_ ?_ _ | refine Below.drew ?_ | refine below_drewN ?_ _ | refine Below.setCell ?_ ?_ _ | refine below_via (by with_reducible assumption) ?_ ?_) | omega | (simp only [szs]; omega) | (simp only [szs] at *; omega)))
      have hown1 : Hid ((wr.alloc (.cells #[.int .u32 (X : Nat)] 64)).drew.ownsRow w.heap.size 64 1 u3 j (arrL .u32 (wordAt z) j)) := own_below hown.out hb1 (fun k h => (hown.out.lt k h).2)
      go_wp2
      go_region_held3 (fun w' => w'.cell? ⟨b, off + i, none⟩ = some (.int .u8 (q0 : Nat)) ∧ w'.cell? ⟨b, off + i1, none⟩ = some (.int .u8 (q1 : Nat)) ∧ w'.cell? ⟨b, off + i2, none⟩ = some (.int .u8 (q2 : Nat)) ∧ w'.cell? ⟨b, off + i3, none⟩ = some (.int .u8 (q3 : Nat))) (first | exact hkeep.out _ hBw | exact hkeep.out _ (by (repeat' (first | (with_reducible first | exact Below.refl _ _ | assumption | refine Below.alloc ?_ ?_ _ | refine Below.drew ?_ | refine below_drewN ?_ _ | refine Below.setCell ?_ ?_ _ | refine below_via (by with_reducible assumption) ?_ ?_) | omega | (simp only [szs]; omega) | (simp only [szs] at *; omega)))))
        ((rw [if_pos (by rfl)]; (refine wp_append_own _ _ _ 62 rfl w.heap.size 64 i0 _ 1 4 Tryd.underlying62 hi hz0 hz1 hz2 rfl (by decide) _ j _ rfl hown1.out ⟨wr.heap.size, 0, none⟩ 1 1 [.int .u32 (X : Nat)] rfl rfl (fun j u h => by cases j with | zero => (simp at h; subst h; simp [Addr.add]) | succ j => simp at h) (by simp [Value.oneCell']) (by unfold maxLen; omega) (by omega) (by first | (simp; done) | (simp; omega)) ?_); intro v' w1 ho hg hnil; have hBw : Below w.heap.size w w1 := hb0.grown hg hb0.size (fun k h => (hown.out.lt k h).1); have ho' : Hid (w1.ownsRow w.heap.size 64 1 v' (j + 1) (arrL .u32 (wordAt z) (j + 1))) := (by rw [← hw.out]; exact ho); clear ho hg hnil))
      go_wp2
      go_roundw
      case rel => exact ⟨j + 1, by omega, by have := hi4.out; go_num, ho', hBw⟩
      case measure => first | (simp [intOf]; done) | (simp [intOf]; omega)
    · have hjk : j = k := by omega
      subst hjk
      have hend : ¬ (((4 * j : Nat) : Int) + 3 < (n : Int)) := by omega
      obtain ⟨i, hi4⟩ : ∃ i, Hid (4 * j = i) := ⟨_, rfl⟩
      rw [hi4.out] at hend ⊢
      have li : (i : Int) ≤ 4000000 := by have := hi4.out; omega
      go_wp2
      go_ret
      exact ⟨_, rfl, hown.out, by (repeat' (first | (with_reducible first | exact Below.refl _ _ | assumption | refine Below.alloc ?_ ?_ _ | refine Below.drew ?_ | refine below_drewN ?_ _ | refine Below.setCell ?_ ?_ _ | refine below_via (by with_reducible assumption) ?_ ?_) | omega | (simp only [szs]; omega) | (simp only [szs] at *; omega)))⟩

theorem arr_of_row {w : World} {k : IntKind} {e : TypeId} {base n cap g : Nat} {v : Nat → Nat} (h : w.ownsRow base e 1 (.slice (some ⟨g, 0, none⟩) n cap) n (arrL k v n)) : Arr w k g n v := by
  refine ⟨(h.lt g rfl).2, fun i hi => ?_, fun i hi => ?_⟩
  · have := h.cells (g := g) rfl i _ (arrL_get k v n i hi)
    have hadd : (⟨g, 0, none⟩ : Addr).add i = ⟨g, i, none⟩ := by unfold Addr.add; split <;> simp_all
    rw [hadd] at this
    exact this
  · rcases h.2 with ⟨h0, _⟩ | ⟨g', cap', cur, hv, _, hg, _⟩
    · cases h0
    · cases hv
      simp [World.frozen?, hg]
/-- The words of 4 k bytes. -/
theorem rwordsW (b off n k c : Nat) (hnk : 4 * k = n) (h0 : 0 < k) (z : Nat → Nat) (hz : ∀ i, z i < 256) (hk : k ≤ 1000000) (w : World) (hY : Bys w b off n z) :
    Calls Tryd.prog 32 #[.slice (some ⟨b, off, none⟩) n c] w fun e w' => ∃ g cap, e = .returned (.slice (some ⟨g, 0, none⟩) k cap) ∧ w.heap.size ≤ g ∧ Arr w' .u32 g k (wordAt z) ∧ Below w.heap.size w w' := by
  refine (rwords_core b off n k c hnk z hz hk w hY).mono fun e w' ⟨v, he, ho, hb⟩ => ?_
  rcases ho.2 with ⟨_, h⟩ | ⟨g, cap, cur, rfl, hg, _⟩
  · omega
  · exact ⟨g, cap, he, hg, arr_of_row ho, hb⟩
end Go.Proofs.YtkekomiaiaacaaaDoor
