/-
  Joined texts: The walk of the statements' own maker (obollaw12): a new variable of a list. The walk of the statements' own maker (obollaw12): the hash of two. Rows of integers, and lists of terms, of one's own: that grow, where they lie. The walk of the statements' own maker (obollaw12): bits. Deeds of layer 12's statements: what they ask for. Makers of systems (layer 12): hashes of lists of whatever variables; public variables; what a deed makes, and when it holds. Makers of systems (layer 12): a system doesn't hang on values.
-/
import Derived.Test.YtdbolfmmlmoiaaaJ4
import Derived.Test.YtdbolfmmlmoiaaaJ2

namespace Go.Proofs.Ytdbolfmmlmoiaaa
open Go.RowKit Go.Proofs
set_option linter.unusedVariables false
set_option linter.unusedSimpArgs false
attribute [local go_sem ↓] Go.wp_at_zero Go.wp_at_succ
set_option maxRecDepth 4000 in
set_option maxHeartbeats 8000000 in
theorem mlinearW (r : Nat → Nat) (b : Nat) (S : Mk) (hG : S.Good) (hn : S.n ≤ 100000) (hm : S.m ≤ 100000) (L : Lst) (hL : L.Ok) (nL : L.n ≤ 1000) (L' : Lst) (eL : LEq (S.isL L) L') (w : World) (h : Mdl r w b S) (tL : L.At w.heap.size w) :
    Calls Try.prog 31 #[.pointer (some ⟨b, 0, none⟩), L.val] w fun e w' => e = .returned (.int .i64 (S.n : Nat)) ∧ After r w w' b (S.linear L') := by
  have h' : Hid (Mdl r w b S) := h
  obtain ⟨vr, vv, R, t, hS, hO⟩ := h
  obtain ⟨av, cv, rfl, hsrc⟩ := t.src
  have c3 := t.c3
  have hblt := t.blt
  have hrl : Hid (∀ k, w.heap.size ≤ k → r k = 0) := fun k hk => Decidable.byContradiction fun h => by have := t.lt k h; omega
  have hv : Hid (∀ i, S.v i < 18446744073709551616) := fun i => by have := hG.lt i; omega
  have hsrc' : Hid (SrcW w.heap.size w av S.n S.v) := hsrc
  have hG' : Hid S.Good := hG
  have tL' : Hid (L.At w.heap.size w) := tL
  have hL' : Hid L.Ok := hL
  have hkeep : Hid (∀ W, Below w.heap.size w W → W.cell? ⟨b, 3, none⟩ = some (.slice av S.n cv)) := fun W hW => by rw [(bcell hW).1 b 3 hblt]; exact c3
  have cI := fun (v : Int) W (hW : Below w.heap.size w W) => misW r b S hG v W (h'.out.below hW)
  have eL' : Hid (LEq (S.isL L) L') := eL
  clear hsrc hG t tL hL hS hO eL
  unfold Lst.val
  go_enter Try.func31, Try.ntmps31
  go_wp2
  go_loopw [5, 6] (fun so si wr => ∃ (i : Nat) (o : Value), o = so ∧ i ≤ L.n ∧ si = .int .i64 i ∧ Below w.heap.size w wr ∧ Hid (OwnT wr w.heap.size o i (fun j => ((S.is (L.V j) : Nat) : Int)) L.K)) (fun _ si _ => L.n - (intOf si).toNat)
  case atStart => exact ⟨0, _, rfl, by omega, rfl, by (repeat' (first | (with_reducible first | exact Below.refl _ _ | assumption | refine Below.alloc ?_ ?_ _ | refine Below.drew ?_ | refine below_drewN ?_ _ | refine Below.setCell ?_ ?_ _ | refine below_via (by with_reducible assumption) ?_ ?_) | omega | (simp only [szs]; omega) | (simp only [szs] at *; omega))), OwnT.nil _ _ _ _⟩
  case round =>
    obtain ⟨i, o, rfl, hi, rfl, hB, hown⟩ := hrel
    have zB := hB.size
    by_cases hlt : i < L.n
    · have hlt' : (i : Int) < (L.n : Int) := by omega
      rcases tL'.out with hz | ⟨g0, off, hb, lb, tb⟩
      · omega
      rw [hb]
      have hkeep2 : Hid (∀ W, Below wr.heap.size wr W → (fun w' => w'.cell? ⟨g0, off + i * 2, none⟩ = some (.int .i64 (L.V i)) ∧ w'.cell? ⟨g0, off + i * 2 + 1, none⟩ = some (.int .u64 (L.K i : Nat))) W) := fun W hW => by
        have hBW : Below w.heap.size w W := below_via hW hB hB.size
        exact ⟨(tb.below hBW lb).c0 i hlt, (tb.below hBW lb).c1 i hlt⟩
      have c1 := fun W (hW : Below w.heap.size w W) => cI (L.V i) W hW
      obtain ⟨x, hx⟩ : ∃ x, Hid (L.V i = x) := ⟨_, rfl⟩
      obtain ⟨q, hq⟩ : ∃ q, Hid (((S.is (L.V i) : Nat) : Int) = q) := ⟨_, rfl⟩
      rw [hq.out] at c1
      rw [hx.out] at c1 hkeep2
      obtain ⟨k, hk⟩ : ∃ k, Hid (L.K i = k) := ⟨_, rfl⟩
      rw [hk.out] at hkeep2
      have q0 : Hid ((fun j => ((S.is (L.V j) : Nat) : Int)) i = q) := hq
      have hown2 : Hid (∀ W, Below wr.heap.size wr W → OwnT W w.heap.size o i (fun j => ((S.is (L.V j) : Nat) : Int)) L.K) := fun W hW => hown.out.on hW
      clear tb lb hb hown
      go_wp2
      refine wp_region_noPanic ?_
      refine region_lastly (S := (fun w' => w'.cell? ⟨g0, off + i * 2, none⟩ = some (.int .i64 x) ∧ w'.cell? ⟨g0, off + i * 2 + 1, none⟩ = some (.int .u64 (k : Nat)))) [15, 16] (by kernel_rfl) (by ((try dsimp only); (exact hkeep2.out _ (by (repeat' (first | (with_reducible first | exact Below.refl _ _ | assumption | refine Below.alloc ?_ ?_ _ | refine Below.drew ?_ | refine below_drewN ?_ _ | refine Below.setCell ?_ ?_ _ | refine below_via (by with_reducible assumption) ?_ ?_) | omega | (simp only [szs]; omega) | (simp only [szs] at *; omega))))))) (fun hHeld => ?_)
      refine anyZ_free (i := 0) (oi := ?oi_1) (v := ?v_1) ?hi_1 ?hs_1 ?hf_1 ?hr_1 ?hQ_1 (Or.inl ⟨?hw_1, ?hy_1⟩) ?hrest_1
      case hi_1 => (simp only [List.getElem?_toArray, List.getElem?_cons_succ, List.getElem?_cons_zero]; exact rfl)
      case hs_1 => kernel_rfl
      case hf_1 => kernel_rfl
      case hr_1 => kernel_rfl
      case hQ_1 => exact fun _ _ _ h => h
      case hw_1 => rfl
      case hy_1 => (intro w _; go_simp; try with_reducible rfl)
      try simp only [Act.put, List.setIfInBounds_toArray, List.set_cons_zero, List.set_cons_succ]
      refine anyZ_free (i := 1) (oi := ?oi_2) (v := ?v_2) ?hi_2 ?hs_2 ?hf_2 ?hr_2 ?hQ_2 (Or.inl ⟨?hw_2, ?hy_2⟩) ?hrest_2
      case hi_2 => (simp only [List.getElem?_toArray, List.getElem?_cons_succ, List.getElem?_cons_zero]; exact rfl)
      case hs_2 => kernel_rfl
      case hf_2 => kernel_rfl
      case hr_2 => kernel_rfl
      case hQ_2 => exact fun _ _ _ h => h
      case hw_2 => rfl
      case hy_2 => (intro w _; go_simp; try with_reducible rfl)
      try simp only [Act.put, List.setIfInBounds_toArray, List.set_cons_zero, List.set_cons_succ]
      refine anyZ_free (i := 2) (oi := ?oi_3) (v := ?v_3) ?hi_3 ?hs_3 ?hf_3 ?hr_3 ?hQ_3 (Or.inl ⟨?hw_3, ?hy_3⟩) ?hrest_3
      case hi_3 => (simp only [List.getElem?_toArray, List.getElem?_cons_succ, List.getElem?_cons_zero]; exact rfl)
      case hs_3 => kernel_rfl
      case hf_3 => kernel_rfl
      case hr_3 => kernel_rfl
      case hQ_3 => exact fun _ _ _ h => h
      case hw_3 => rfl
      case hy_3 => (intro w _; go_simp; try with_reducible rfl)
      try simp only [Act.put, List.setIfInBounds_toArray, List.set_cons_zero, List.set_cons_succ]
      refine anyZ_free (i := 3) (oi := ?oi_4) (v := ?v_4) ?hi_4 ?hs_4 ?hf_4 ?hr_4 ?hQ_4 (Or.inl ⟨?hw_4, ?hy_4⟩) ?hrest_4
      case hi_4 => (simp only [List.getElem?_toArray, List.getElem?_cons_succ, List.getElem?_cons_zero]; exact rfl)
      case hs_4 => kernel_rfl
      case hf_4 => kernel_rfl
      case hr_4 => kernel_rfl
      case hQ_4 => exact fun _ _ _ h => h
      case hw_4 => rfl
      case hy_4 => (intro w _; go_simp; try with_reducible rfl)
      try simp only [Act.put, List.setIfInBounds_toArray, List.set_cons_zero, List.set_cons_succ]
      refine anyZ_free (i := 4) (oi := ?oi_5) (v := ?v_5) ?hi_5 ?hs_5 ?hf_5 ?hr_5 ?hQ_5 (Or.inl ⟨?hw_5, ?hy_5⟩) ?hrest_5
      case hi_5 => (simp only [List.getElem?_toArray, List.getElem?_cons_succ, List.getElem?_cons_zero]; exact rfl)
      case hs_5 => kernel_rfl
      case hf_5 => kernel_rfl
      case hr_5 => kernel_rfl
      case hQ_5 => exact fun _ _ _ h => h
      case hw_5 => rfl
      case hy_5 => (intro w _; go_simp; try with_reducible rfl)
      try simp only [Act.put, List.setIfInBounds_toArray, List.set_cons_zero, List.set_cons_succ]
      refine anyZ_free (i := 5) (oi := ?oi_6) (v := ?v_6) ?hi_6 ?hs_6 ?hf_6 ?hr_6 ?hQ_6 (Or.inl ⟨?hw_6, ?hy_6⟩) ?hrest_6
      case hi_6 => (simp only [List.getElem?_toArray, List.getElem?_cons_succ, List.getElem?_cons_zero]; exact rfl)
      case hs_6 => kernel_rfl
      case hf_6 => kernel_rfl
      case hr_6 => kernel_rfl
      case hQ_6 => exact fun _ _ _ h => h
      case hw_6 => rfl
      case hy_6 => (intro w _; go_simp; try with_reducible rfl)
      try simp only [Act.put, List.setIfInBounds_toArray, List.set_cons_zero, List.set_cons_succ]
      refine anyZ_free (i := 8) (oi := ?oi_7) (v := ?v_7) ?hi_7 ?hs_7 ?hf_7 ?hr_7 ?hQ_7 (Or.inl ⟨?hw_7, ?hy_7⟩) ?hrest_7
      case hi_7 => (simp only [List.getElem?_toArray, List.getElem?_cons_succ, List.getElem?_cons_zero]; exact rfl)
      case hs_7 => kernel_rfl
      case hf_7 => kernel_rfl
      case hr_7 => kernel_rfl
      case hQ_7 => exact fun _ _ _ h => h
      case hw_7 => rfl
      case hy_7 => (intro w _; go_simp; try with_reducible rfl)
      try simp only [Act.put, List.setIfInBounds_toArray, List.set_cons_zero, List.set_cons_succ]
      refine anyZ_free (i := 9) (oi := ?oi_8) (v := ?v_8) ?hi_8 ?hs_8 ?hf_8 ?hr_8 ?hQ_8 (Or.inl ⟨?hw_8, ?hy_8⟩) ?hrest_8
      case hi_8 => (simp only [List.getElem?_toArray, List.getElem?_cons_succ, List.getElem?_cons_zero]; exact rfl)
      case hs_8 => kernel_rfl
      case hf_8 => kernel_rfl
      case hr_8 => kernel_rfl
      case hQ_8 => exact fun _ _ _ h => h
      case hw_8 => rfl
      case hy_8 => (intro w _; go_simp; try with_reducible rfl)
      try simp only [Act.put, List.setIfInBounds_toArray, List.set_cons_zero, List.set_cons_succ]
      refine anyZ_free (i := 10) (oi := ?oi_9) (v := ?v_9) ?hi_9 ?hs_9 ?hf_9 ?hr_9 ?hQ_9 (Or.inl ⟨?hw_9, ?hy_9⟩) ?hrest_9
      case hi_9 => (simp only [List.getElem?_toArray, List.getElem?_cons_succ, List.getElem?_cons_zero]; exact rfl)
      case hs_9 => kernel_rfl
      case hf_9 => kernel_rfl
      case hr_9 => kernel_rfl
      case hQ_9 => exact fun _ _ _ h => h
      case hw_9 => rfl
      case hy_9 => (intro w _; go_simp; try with_reducible rfl)
      try simp only [Act.put, List.setIfInBounds_toArray, List.set_cons_zero, List.set_cons_succ]
      refine anyZ_free (i := 11) (oi := ?oi_10) (v := ?v_10) ?hi_10 ?hs_10 ?hf_10 ?hr_10 ?hQ_10 (Or.inl ⟨?hw_10, ?hy_10⟩) ?hrest_10
      case hi_10 => (simp only [List.getElem?_toArray, List.getElem?_cons_succ, List.getElem?_cons_zero]; exact rfl)
      case hs_10 => kernel_rfl
      case hf_10 => kernel_rfl
      case hr_10 => kernel_rfl
      case hQ_10 => exact fun _ _ _ h => h
      case hw_10 => rfl
      case hy_10 => (intro w _; go_simp; try with_reducible rfl)
      try simp only [Act.put, List.setIfInBounds_toArray, List.set_cons_zero, List.set_cons_succ]
      refine anyZ_ready (rs := [6, 12]) (by kernel_rfl) (by simp) ?_
      refine (AllZ.cons (o := ?o_12) ?ho_12 (fun K hK => ?st_12) (AllZ.cons (o := ?o_11) ?ho_11 (fun K hK => ?st_11) AllZ.nil))
      case ho_12 => (simp only [List.getElem?_toArray, List.getElem?_cons_succ, List.getElem?_cons_zero]; exact rfl)
      case ho_11 => (simp only [List.getElem?_toArray, List.getElem?_cons_succ, List.getElem?_cons_zero]; exact rfl)
      case st_12 =>
        go_simp
        refine hK.out _ _ (by ((try dsimp only); (exact hkeep2.out _ (by (repeat' (first | (with_reducible first | exact Below.refl _ _ | assumption | refine Below.alloc ?_ ?_ _ | refine Below.drew ?_ | refine below_drewN ?_ _ | refine Below.setCell ?_ ?_ _ | refine below_via (by with_reducible assumption) ?_ ?_) | omega | (simp only [szs]; omega) | (simp only [szs] at *; omega))))))) (fun hHeld => ?_)
        clear hK K
        try simp only [Act.put, List.setIfInBounds_toArray, List.set_cons_zero, List.set_cons_succ]
        refine anyZ_ready (rs := [7, 12]) (by kernel_rfl) (by simp) ?_
        refine (AllZ.cons (o := ?o_14) ?ho_14 (fun K hK => ?st_14) (AllZ.cons (o := ?o_13) ?ho_13 (fun K hK => ?st_13) AllZ.nil))
        case ho_14 => (simp only [List.getElem?_toArray, List.getElem?_cons_succ, List.getElem?_cons_zero]; exact rfl)
        case ho_13 => (simp only [List.getElem?_toArray, List.getElem?_cons_succ, List.getElem?_cons_zero]; exact rfl)
        case st_14 =>
          go_simp
          (go_at_call 14; (with_reducible refine (c1 _ (below_via (by (repeat' (first | (with_reducible first | exact Below.refl _ _ | assumption | refine Below.alloc ?_ ?_ _ | refine Below.drew ?_ | refine below_drewN ?_ _ | refine Below.setCell ?_ ?_ _ | refine below_via (by with_reducible assumption) ?_ ?_) | omega | (simp only [szs]; omega) | (simp only [szs] at *; omega)))) hB hB.size)).mono ?_); rintro e w1 ⟨rfl, rfl⟩)
          refine hK.out _ _ (by ((try dsimp only); (exact hkeep2.out _ (by (repeat' (first | (with_reducible first | exact Below.refl _ _ | assumption | refine Below.alloc ?_ ?_ _ | refine Below.drew ?_ | refine below_drewN ?_ _ | refine Below.setCell ?_ ?_ _ | refine below_via (by with_reducible assumption) ?_ ?_) | omega | (simp only [szs]; omega) | (simp only [szs] at *; omega))))))) (fun hHeld => ?_)
          clear hK K
          try simp only [Act.put, List.setIfInBounds_toArray, List.set_cons_zero, List.set_cons_succ]
          refine anyZ_ready (rs := [12]) (by kernel_rfl) (by simp) ?_
          refine (AllZ.cons (o := ?o_15) ?ho_15 (fun K hK => ?st_15) AllZ.nil)
          case ho_15 => (simp only [List.getElem?_toArray, List.getElem?_cons_succ, List.getElem?_cons_zero]; exact rfl)
          case st_15 =>
            go_simp
            refine hK.out _ _ (by ((try dsimp only); (exact hkeep2.out _ (by (repeat' (first | (with_reducible first | exact Below.refl _ _ | assumption | refine Below.alloc ?_ ?_ _ | refine Below.drew ?_ | refine below_drewN ?_ _ | refine Below.setCell ?_ ?_ _ | refine below_via (by with_reducible assumption) ?_ ?_) | omega | (simp only [szs]; omega) | (simp only [szs] at *; omega))))))) (fun hHeld => ?_)
            clear hK K
            try simp only [Act.put, List.setIfInBounds_toArray, List.set_cons_zero, List.set_cons_succ]
            refine anyZ_free (i := 13) (oi := ?oi_16) (v := ?v_16) ?hi_16 ?hs_16 ?hf_16 ?hr_16 ?hQ_16 (Or.inl ⟨?hw_16, ?hy_16⟩) ?hrest_16
            case hi_16 => (simp only [List.getElem?_toArray, List.getElem?_cons_succ, List.getElem?_cons_zero]; exact rfl)
            case hs_16 => kernel_rfl
            case hf_16 => kernel_rfl
            case hr_16 => kernel_rfl
            case hQ_16 => exact fun _ _ _ h => h
            case hw_16 => rfl
            case hy_16 => (intro w _; go_simp; try with_reducible rfl)
            try simp only [Act.put, List.setIfInBounds_toArray, List.set_cons_zero, List.set_cons_succ]
            refine anyZ_ready (rs := [14]) (by kernel_rfl) (by simp) ?_
            refine (AllZ.cons (o := ?o_17) ?ho_17 (fun K hK => ?st_17) AllZ.nil)
            case ho_17 => (simp only [List.getElem?_toArray, List.getElem?_cons_succ, List.getElem?_cons_zero]; exact rfl)
            case st_17 =>
              go_simp
              refine hK.out _ _ (by ((try dsimp only); (exact hkeep2.out _ (by (repeat' (first | (with_reducible first | exact Below.refl _ _ | assumption | refine Below.alloc ?_ ?_ _ | refine Below.drew ?_ | refine below_drewN ?_ _ | refine Below.setCell ?_ ?_ _ | refine below_via (by with_reducible assumption) ?_ ?_) | omega | (simp only [szs]; omega) | (simp only [szs] at *; omega))))))) (fun hHeld => ?_)
              clear hK K
              try simp only [Act.put, List.setIfInBounds_toArray, List.set_cons_zero, List.set_cons_succ]
              refine anyZ_ready (rs := [15]) (by kernel_rfl) (by simp) ?_
              refine (AllZ.last (o := ?o_18) ?ho_18 (by rfl) (fun K hK => ?st_18) AllZ.nil)
              case ho_18 => (simp only [List.getElem?_toArray, List.getElem?_cons_succ, List.getElem?_cons_zero]; exact rfl)
              case st_18 =>
                rw [if_pos (by rfl)]; (refine wp_app1T _ _ rfl w.heap.size o i (fun j => ((S.is (L.V j) : Nat) : Int)) L.K rfl (hown2.out _ (by (repeat' (first | (with_reducible first | exact Below.refl _ _ | assumption | refine Below.alloc ?_ ?_ _ | refine Below.drew ?_ | refine below_drewN ?_ _ | refine Below.setCell ?_ ?_ _ | refine below_via (by with_reducible assumption) ?_ ?_) | omega | (simp only [szs]; omega) | (simp only [szs] at *; omega))))) wr.heap.size rfl (by first | (rw [q0.out]; simp [go_sem]; done) | (rw [hq.out]; simp [go_sem]; done) | (dsimp only; rw [hq.out]; simp [go_sem]; done)) (by rw [hk.out]; simp [go_sem]) (by omega) (by simp only [szs]; omega) ?_); intro v' w1 ho hBa; have hB1 : Below w.heap.size w w1 := (below_via hBa (by (repeat' (first | (with_reducible first | exact Below.refl _ _ | assumption | refine Below.alloc ?_ ?_ _ | refine Below.drew ?_ | refine below_drewN ?_ _ | refine Below.setCell ?_ ?_ _ | refine below_via (by with_reducible assumption) ?_ ?_) | omega | (simp only [szs]; omega) | (simp only [szs] at *; omega)))) (Nat.le_refl _)); have ho' : Hid (OwnT w1 w.heap.size v' (i + 1) (fun j => ((S.is (L.V j) : Nat) : Int)) L.K) := ho; clear ho hBa
                refine hK.out _ _ ?_
                clear hK K
                try simp only [Act.put, List.setIfInBounds_toArray, List.set_cons_zero, List.set_cons_succ]
                refine anyZ_ready (rs := [16]) (by kernel_rfl) (by simp) ?_
                refine (AllZ.last (o := ?o_19) ?ho_19 (by rfl) (fun K hK => ?st_19) AllZ.nil)
                case ho_19 => (simp only [List.getElem?_toArray, List.getElem?_cons_succ, List.getElem?_cons_zero]; exact rfl)
                case st_19 =>
                  go_simp
                  refine hK.out _ _ ?_
                  clear hK K
                  try simp only [Act.put, List.setIfInBounds_toArray, List.set_cons_zero, List.set_cons_succ]
                  refine anyZ_done (by kernel_rfl) ?_ _
                  refine NoPanic.normal ?_
                  go_wp2
                  go_roundw
                  case rel => exact ⟨i + 1, v', rfl, by omega, by go_num, hB1, ho'⟩
                  case measure => first | (simp [intOf]; done) | (simp [intOf]; omega)
        case st_13 =>
          go_simp
          refine hK.out _ _ (by ((try dsimp only); (exact hkeep2.out _ (by (repeat' (first | (with_reducible first | exact Below.refl _ _ | assumption | refine Below.alloc ?_ ?_ _ | refine Below.drew ?_ | refine below_drewN ?_ _ | refine Below.setCell ?_ ?_ _ | refine below_via (by with_reducible assumption) ?_ ?_) | omega | (simp only [szs]; omega) | (simp only [szs] at *; omega))))))) (fun hHeld => ?_)
          clear hK K
          try simp only [Act.put, List.setIfInBounds_toArray, List.set_cons_zero, List.set_cons_succ]
          refine anyZ_ready (rs := [7]) (by kernel_rfl) (by simp) ?_
          refine (AllZ.cons (o := ?o_20) ?ho_20 (fun K hK => ?st_20) AllZ.nil)
          case ho_20 => (simp only [List.getElem?_toArray, List.getElem?_cons_succ, List.getElem?_cons_zero]; exact rfl)
          case st_20 =>
            go_simp
            (go_at_call 14; (with_reducible refine (c1 _ (below_via (by (repeat' (first | (with_reducible first | exact Below.refl _ _ | assumption | refine Below.alloc ?_ ?_ _ | refine Below.drew ?_ | refine below_drewN ?_ _ | refine Below.setCell ?_ ?_ _ | refine below_via (by with_reducible assumption) ?_ ?_) | omega | (simp only [szs]; omega) | (simp only [szs] at *; omega)))) hB hB.size)).mono ?_); rintro e w1 ⟨rfl, rfl⟩)
            refine hK.out _ _ (by ((try dsimp only); (exact hkeep2.out _ (by (repeat' (first | (with_reducible first | exact Below.refl _ _ | assumption | refine Below.alloc ?_ ?_ _ | refine Below.drew ?_ | refine below_drewN ?_ _ | refine Below.setCell ?_ ?_ _ | refine below_via (by with_reducible assumption) ?_ ?_) | omega | (simp only [szs]; omega) | (simp only [szs] at *; omega))))))) (fun hHeld => ?_)
            clear hK K
            try simp only [Act.put, List.setIfInBounds_toArray, List.set_cons_zero, List.set_cons_succ]
            refine anyZ_free (i := 13) (oi := ?oi_21) (v := ?v_21) ?hi_21 ?hs_21 ?hf_21 ?hr_21 ?hQ_21 (Or.inl ⟨?hw_21, ?hy_21⟩) ?hrest_21
            case hi_21 => (simp only [List.getElem?_toArray, List.getElem?_cons_succ, List.getElem?_cons_zero]; exact rfl)
            case hs_21 => kernel_rfl
            case hf_21 => kernel_rfl
            case hr_21 => kernel_rfl
            case hQ_21 => exact fun _ _ _ h => h
            case hw_21 => rfl
            case hy_21 => (intro w _; go_simp; try with_reducible rfl)
            try simp only [Act.put, List.setIfInBounds_toArray, List.set_cons_zero, List.set_cons_succ]
            refine anyZ_ready (rs := [14]) (by kernel_rfl) (by simp) ?_
            refine (AllZ.cons (o := ?o_22) ?ho_22 (fun K hK => ?st_22) AllZ.nil)
            case ho_22 => (simp only [List.getElem?_toArray, List.getElem?_cons_succ, List.getElem?_cons_zero]; exact rfl)
            case st_22 =>
              go_simp
              refine hK.out _ _ (by ((try dsimp only); (exact hkeep2.out _ (by (repeat' (first | (with_reducible first | exact Below.refl _ _ | assumption | refine Below.alloc ?_ ?_ _ | refine Below.drew ?_ | refine below_drewN ?_ _ | refine Below.setCell ?_ ?_ _ | refine below_via (by with_reducible assumption) ?_ ?_) | omega | (simp only [szs]; omega) | (simp only [szs] at *; omega))))))) (fun hHeld => ?_)
              clear hK K
              try simp only [Act.put, List.setIfInBounds_toArray, List.set_cons_zero, List.set_cons_succ]
              refine anyZ_ready (rs := [15]) (by kernel_rfl) (by simp) ?_
              refine (AllZ.last (o := ?o_23) ?ho_23 (by rfl) (fun K hK => ?st_23) AllZ.nil)
              case ho_23 => (simp only [List.getElem?_toArray, List.getElem?_cons_succ, List.getElem?_cons_zero]; exact rfl)
              case st_23 =>
                rw [if_pos (by rfl)]; (refine wp_app1T _ _ rfl w.heap.size o i (fun j => ((S.is (L.V j) : Nat) : Int)) L.K rfl (hown2.out _ (by (repeat' (first | (with_reducible first | exact Below.refl _ _ | assumption | refine Below.alloc ?_ ?_ _ | refine Below.drew ?_ | refine below_drewN ?_ _ | refine Below.setCell ?_ ?_ _ | refine below_via (by with_reducible assumption) ?_ ?_) | omega | (simp only [szs]; omega) | (simp only [szs] at *; omega))))) wr.heap.size rfl (by first | (rw [q0.out]; simp [go_sem]; done) | (rw [hq.out]; simp [go_sem]; done) | (dsimp only; rw [hq.out]; simp [go_sem]; done)) (by rw [hk.out]; simp [go_sem]) (by omega) (by simp only [szs]; omega) ?_); intro v' w1 ho hBa; have hB1 : Below w.heap.size w w1 := (below_via hBa (by (repeat' (first | (with_reducible first | exact Below.refl _ _ | assumption | refine Below.alloc ?_ ?_ _ | refine Below.drew ?_ | refine below_drewN ?_ _ | refine Below.setCell ?_ ?_ _ | refine below_via (by with_reducible assumption) ?_ ?_) | omega | (simp only [szs]; omega) | (simp only [szs] at *; omega)))) (Nat.le_refl _)); have ho' : Hid (OwnT w1 w.heap.size v' (i + 1) (fun j => ((S.is (L.V j) : Nat) : Int)) L.K) := ho; clear ho hBa
                refine hK.out _ _ ?_
                clear hK K
                try simp only [Act.put, List.setIfInBounds_toArray, List.set_cons_zero, List.set_cons_succ]
                refine anyZ_ready (rs := [16]) (by kernel_rfl) (by simp) ?_
                refine (AllZ.last (o := ?o_24) ?ho_24 (by rfl) (fun K hK => ?st_24) AllZ.nil)
                case ho_24 => (simp only [List.getElem?_toArray, List.getElem?_cons_succ, List.getElem?_cons_zero]; exact rfl)
                case st_24 =>
                  go_simp
                  refine hK.out _ _ ?_
                  clear hK K
                  try simp only [Act.put, List.setIfInBounds_toArray, List.set_cons_zero, List.set_cons_succ]
                  refine anyZ_done (by kernel_rfl) ?_ _
                  refine NoPanic.normal ?_
                  go_wp2
                  go_roundw
                  case rel => exact ⟨i + 1, v', rfl, by omega, by go_num, hB1, ho'⟩
                  case measure => first | (simp [intOf]; done) | (simp [intOf]; omega)
      case st_11 =>
        go_simp
        refine hK.out _ _ (by ((try dsimp only); (exact hkeep2.out _ (by (repeat' (first | (with_reducible first | exact Below.refl _ _ | assumption | refine Below.alloc ?_ ?_ _ | refine Below.drew ?_ | refine below_drewN ?_ _ | refine Below.setCell ?_ ?_ _ | refine below_via (by with_reducible assumption) ?_ ?_) | omega | (simp only [szs]; omega) | (simp only [szs] at *; omega))))))) (fun hHeld => ?_)
        clear hK K
        try simp only [Act.put, List.setIfInBounds_toArray, List.set_cons_zero, List.set_cons_succ]
        refine anyZ_ready (rs := [6]) (by kernel_rfl) (by simp) ?_
        refine (AllZ.cons (o := ?o_25) ?ho_25 (fun K hK => ?st_25) AllZ.nil)
        case ho_25 => (simp only [List.getElem?_toArray, List.getElem?_cons_succ, List.getElem?_cons_zero]; exact rfl)
        case st_25 =>
          go_simp
          refine hK.out _ _ (by ((try dsimp only); (exact hkeep2.out _ (by (repeat' (first | (with_reducible first | exact Below.refl _ _ | assumption | refine Below.alloc ?_ ?_ _ | refine Below.drew ?_ | refine below_drewN ?_ _ | refine Below.setCell ?_ ?_ _ | refine below_via (by with_reducible assumption) ?_ ?_) | omega | (simp only [szs]; omega) | (simp only [szs] at *; omega))))))) (fun hHeld => ?_)
          clear hK K
          try simp only [Act.put, List.setIfInBounds_toArray, List.set_cons_zero, List.set_cons_succ]
          refine anyZ_ready (rs := [7]) (by kernel_rfl) (by simp) ?_
          refine (AllZ.cons (o := ?o_26) ?ho_26 (fun K hK => ?st_26) AllZ.nil)
          case ho_26 => (simp only [List.getElem?_toArray, List.getElem?_cons_succ, List.getElem?_cons_zero]; exact rfl)
          case st_26 =>
            go_simp
            (go_at_call 14; (with_reducible refine (c1 _ (below_via (by (repeat' (first | (with_reducible first | exact Below.refl _ _ | assumption | refine Below.alloc ?_ ?_ _ | refine Below.drew ?_ | refine below_drewN ?_ _ | refine Below.setCell ?_ ?_ _ | refine below_via (by with_reducible assumption) ?_ ?_) | omega | (simp only [szs]; omega) | (simp only [szs] at *; omega)))) hB hB.size)).mono ?_); rintro e w1 ⟨rfl, rfl⟩)
            refine hK.out _ _ (by ((try dsimp only); (exact hkeep2.out _ (by (repeat' (first | (with_reducible first | exact Below.refl _ _ | assumption | refine Below.alloc ?_ ?_ _ | refine Below.drew ?_ | refine below_drewN ?_ _ | refine Below.setCell ?_ ?_ _ | refine below_via (by with_reducible assumption) ?_ ?_) | omega | (simp only [szs]; omega) | (simp only [szs] at *; omega))))))) (fun hHeld => ?_)
            clear hK K
            try simp only [Act.put, List.setIfInBounds_toArray, List.set_cons_zero, List.set_cons_succ]
            refine anyZ_free (i := 13) (oi := ?oi_27) (v := ?v_27) ?hi_27 ?hs_27 ?hf_27 ?hr_27 ?hQ_27 (Or.inl ⟨?hw_27, ?hy_27⟩) ?hrest_27
            case hi_27 => (simp only [List.getElem?_toArray, List.getElem?_cons_succ, List.getElem?_cons_zero]; exact rfl)
            case hs_27 => kernel_rfl
            case hf_27 => kernel_rfl
            case hr_27 => kernel_rfl
            case hQ_27 => exact fun _ _ _ h => h
            case hw_27 => rfl
            case hy_27 => (intro w _; go_simp; try with_reducible rfl)
            try simp only [Act.put, List.setIfInBounds_toArray, List.set_cons_zero, List.set_cons_succ]
            refine anyZ_ready (rs := [14]) (by kernel_rfl) (by simp) ?_
            refine (AllZ.cons (o := ?o_28) ?ho_28 (fun K hK => ?st_28) AllZ.nil)
            case ho_28 => (simp only [List.getElem?_toArray, List.getElem?_cons_succ, List.getElem?_cons_zero]; exact rfl)
            case st_28 =>
              go_simp
              refine hK.out _ _ (by ((try dsimp only); (exact hkeep2.out _ (by (repeat' (first | (with_reducible first | exact Below.refl _ _ | assumption | refine Below.alloc ?_ ?_ _ | refine Below.drew ?_ | refine below_drewN ?_ _ | refine Below.setCell ?_ ?_ _ | refine below_via (by with_reducible assumption) ?_ ?_) | omega | (simp only [szs]; omega) | (simp only [szs] at *; omega))))))) (fun hHeld => ?_)
              clear hK K
              try simp only [Act.put, List.setIfInBounds_toArray, List.set_cons_zero, List.set_cons_succ]
              refine anyZ_ready (rs := [15]) (by kernel_rfl) (by simp) ?_
              refine (AllZ.last (o := ?o_29) ?ho_29 (by rfl) (fun K hK => ?st_29) AllZ.nil)
              case ho_29 => (simp only [List.getElem?_toArray, List.getElem?_cons_succ, List.getElem?_cons_zero]; exact rfl)
              case st_29 =>
                rw [if_pos (by rfl)]; (refine wp_app1T _ _ rfl w.heap.size o i (fun j => ((S.is (L.V j) : Nat) : Int)) L.K rfl (hown2.out _ (by (repeat' (first | (with_reducible first | exact Below.refl _ _ | assumption | refine Below.alloc ?_ ?_ _ | refine Below.drew ?_ | refine below_drewN ?_ _ | refine Below.setCell ?_ ?_ _ | refine below_via (by with_reducible assumption) ?_ ?_) | omega | (simp only [szs]; omega) | (simp only [szs] at *; omega))))) wr.heap.size rfl (by first | (rw [q0.out]; simp [go_sem]; done) | (rw [hq.out]; simp [go_sem]; done) | (dsimp only; rw [hq.out]; simp [go_sem]; done)) (by rw [hk.out]; simp [go_sem]) (by omega) (by simp only [szs]; omega) ?_); intro v' w1 ho hBa; have hB1 : Below w.heap.size w w1 := (below_via hBa (by (repeat' (first | (with_reducible first | exact Below.refl _ _ | assumption | refine Below.alloc ?_ ?_ _ | refine Below.drew ?_ | refine below_drewN ?_ _ | refine Below.setCell ?_ ?_ _ | refine below_via (by with_reducible assumption) ?_ ?_) | omega | (simp only [szs]; omega) | (simp only [szs] at *; omega)))) (Nat.le_refl _)); have ho' : Hid (OwnT w1 w.heap.size v' (i + 1) (fun j => ((S.is (L.V j) : Nat) : Int)) L.K) := ho; clear ho hBa
                refine hK.out _ _ ?_
                clear hK K
                try simp only [Act.put, List.setIfInBounds_toArray, List.set_cons_zero, List.set_cons_succ]
                refine anyZ_ready (rs := [16]) (by kernel_rfl) (by simp) ?_
                refine (AllZ.last (o := ?o_30) ?ho_30 (by rfl) (fun K hK => ?st_30) AllZ.nil)
                case ho_30 => (simp only [List.getElem?_toArray, List.getElem?_cons_succ, List.getElem?_cons_zero]; exact rfl)
                case st_30 =>
                  go_simp
                  refine hK.out _ _ ?_
                  clear hK K
                  try simp only [Act.put, List.setIfInBounds_toArray, List.set_cons_zero, List.set_cons_succ]
                  refine anyZ_done (by kernel_rfl) ?_ _
                  refine NoPanic.normal ?_
                  go_wp2
                  go_roundw
                  case rel => exact ⟨i + 1, v', rfl, by omega, by go_num, hB1, ho'⟩
                  case measure => first | (simp [intOf]; done) | (simp [intOf]; omega)
    · obtain rfl : i = L.n := by omega
      have hlt' : ¬ (L.n : Int) < (L.n : Int) := by omega
      have hob := fun k hk => (hown.out.lt k hk).1
      obtain ⟨a, c, rfl, hc1, hc2, hT⟩ := hown.out.trms
      have PO : Hid (Lst.Ok ⟨a, L.n, c, fun j => ((S.is (L.V j) : Nat) : Int), L.K⟩) := ⟨fun i => (by show (-9223372036854775808 : Int) ≤ ((S.is (L.V i) : Nat) : Int); omega), fun i => (by show ((S.is (L.V i) : Nat) : Int) < 9223372036854775808; have := Mk.is_lt hG'.out (L.V i); omega), hL'.out.K1, hc1, (by unfold maxLen at hc2; show c ≤ 9223372036854775807; omega)⟩
      have eP : Hid (LEq ⟨a, L.n, c, fun j => ((S.is (L.V j) : Nat) : Int), L.K⟩ L') := LEq.trans (M := S.isL L) ⟨rfl, fun i _ => ⟨rfl, rfl⟩⟩ eL'.out
      have tP : Hid (Lst.At ⟨a, L.n, c, fun j => ((S.is (L.V j) : Nat) : Int), L.K⟩ wr.heap.size wr) := hT
      have oP : Hid (∀ k, (Lst.val ⟨a, L.n, c, fun j => ((S.is (L.V j) : Nat) : Int), L.K⟩).ownBlock = some k → r k = 0) := fun k hk => hrl.out k (hob k hk)
      have cV := vvalueW ⟨a, L.n, c, fun j => ((S.is (L.V j) : Nat) : Int), L.K⟩ PO.out av S.n cv (by omega) S.v hv.out wr tP.out (hsrc'.out.to hB (Nat.le_refl _))
      rw [eP.out.val] at cV
      have eX : Hid (S.fresh (S.val L') = S.fresh (Ob.toG (valL L' S.n S.v).val)) := by show _ = _; rw [Ob.toG_of_val]; rfl
      have hX : Hid ((valL L' S.n S.v).val < 18446744073709551616) := Ob.G_word _
      have hlin : Hid (S.linear L' = (S.fresh (S.val L')).row L' (just 0) (just S.n)) := rfl
      rw [eX.out] at hlin
      obtain ⟨X, hX2⟩ : ∃ X, Hid ((valL L' S.n S.v).val = X) := ⟨_, rfl⟩
      rw [hX2.out] at cV hlin hX
      have cF := fun W (hW : Below wr.heap.size wr W) => mfreshW r b S hn X hX.out W (h'.out.below (below_via hW hB hB.size))
      have c3' : wr.cell? ⟨b, 3, none⟩ = some (.slice av S.n cv) := hkeep.out wr hB
      have cJ0 := mjustW 0 (by decide)
      have cJ1 := mjustW S.n (by omega)
      have q0 : (((0 : Nat) : Int)) = 0 := rfl
      rw [q0] at cJ0
      unfold Lst.val at cV cJ0 cJ1
      have e1 : (Lst.mk a L.n c (fun j => ((S.is (L.V j) : Nat) : Int)) L.K).ad = a := rfl
      clear eX hX2 hown hob hT hc1 hc2 hkeep cI q0 e1
      have hB' : Hid (Below w.heap.size w wr) := hB
      go_upto_region 7 with (first | (go_at_call 38; (with_reducible refine cV.mono ?_); rintro e w1 ⟨rfl, b1⟩) | (go_at_call 29; (with_reducible refine (cF _ b1).mono ?_); rintro e w2 ⟨rfl, a2⟩))
      obtain ⟨s, m3, g1, g2, g3⟩ := a2.get
      have k3 : Hid (KeepO (fun k => r k ≠ 0) wr w2) := (KeepO.of_below b1).trans g3 fun _ _ h => h
      have zb1 := b1.size
      have g1' : Hid (∀ k, s k ≠ 0 → r k ≠ 0 ∨ wr.heap.size ≤ k) := fun k hk => (g1 k hk).imp id fun h => Nat.le_trans zb1 h
      have g2' : Hid (∀ k, r k ≠ 0 → s k = r k) := g2
      have m3' : Hid (Mdl s w2 b (S.fresh (Ob.toG X))) := m3
      have tP2 : Hid (Lst.At ⟨a, L.n, c, fun j => ((S.is (L.V j) : Nat) : Int), L.K⟩ w2.heap.size w2) := at_keep tP.out k3.out oP.out
      clear a2 m3 g1 g2 g3 b1 zb1 cV cF c3'
      go_upto_region 8 with (first | (go_at_call 33; (with_reducible refine (cJ0 _).mono ?_); rintro e w4 ⟨P0, rfl, o4, n4, e4, t4, b4⟩; have n5 : Hid (P0.n ≤ 1000) := (by show _ ≤ _; omega); clear n4) | (go_at_call 33; (with_reducible refine (cJ1 _).mono ?_); rintro e w5 ⟨P1, rfl, o5, n5', e5, t5, b5⟩; have n6 : Hid (P1.n ≤ 1000) := (by show _ ≤ _; omega); clear n5'; have m5 : Mdl s w5 b (S.fresh (Ob.toG X)) := (m3'.out.below b4).below b5; have cR := mrowW s b (S.fresh (Ob.toG X)) hm ⟨a, L.n, c, fun j => ((S.is (L.V j) : Nat) : Int), L.K⟩ P0 P1 PO.out o4 o5 nL n5.out n6.out L' (just 0) (just S.n) eP.out e4 e5 w5 m5 (TrmsAt.to (TrmsAt.to tP2.out b4 (Nat.le_refl _)) b5 (Nat.le_refl _)) (TrmsAt.to t4 b5 (Nat.le_refl _)) t5; unfold Lst.val at cR) | (go_at_call 40; (with_reducible refine cR.mono ?_); rintro e w6 ⟨rfl, a6⟩))
      have hend : Hid (After r w w6 b (S.linear L')) := by
        show After r w w6 b (S.linear L')
        rw [hlin.out]
        exact After.of_below hB'.out (After.then g1'.out g2'.out k3.out (After.of_below b4 (After.of_below b5 a6)))
      clear a6 cR m5
      go_wp2
      go_ret
      exact ⟨rfl, hend.out⟩
end Go.Proofs.Ytdbolfmmlmoiaaa

namespace Go.Proofs.Ytdbolfmmlmoiaaa
open Go.RowKit Go.Proofs
set_option linter.unusedVariables false
set_option linter.unusedSimpArgs false
attribute [local go_sem ↓] Go.wp_at_zero Go.wp_at_succ
/-- A list of three, in a block of its own. -/
def l3 (g : Nat) (v0 v1 v2 : Int) (k0 k1 k2 : Nat) : Lst := ⟨some ⟨g, 0, none⟩, 3, 3, fun i => if i = 0 then v0 else if i = 1 then v1 else v2, fun i => if i = 0 then k0 else if i = 1 then k1 else k2⟩
theorem l3_ok {g : Nat} {v0 v1 v2 : Int} {k0 k1 k2 : Nat} (h0 : 0 ≤ v0 ∧ v0 < 9223372036854775808) (h1 : 0 ≤ v1 ∧ v1 < 9223372036854775808) (h2 : 0 ≤ v2 ∧ v2 < 9223372036854775808) (q0 : k0 < 18446744073709551616) (q1 : k1 < 18446744073709551616) (q2 : k2 < 18446744073709551616) : (l3 g v0 v1 v2 k0 k1 k2).Ok := by
  refine ⟨fun i => ?_, fun i => ?_, fun i => ?_, Nat.le_refl _, (by show 3 ≤ 9223372036854775807; decide)⟩
  · show -9223372036854775808 ≤ (if i = 0 then v0 else if i = 1 then v1 else v2); split; omega; split <;> omega
  · show (if i = 0 then v0 else if i = 1 then v1 else v2) < 9223372036854775808; split; omega; split <;> omega
  · show (if i = 0 then k0 else if i = 1 then k1 else k2) < 18446744073709551616; split; omega; split <;> omega
theorem l3_at {w : World} {v0 v1 v2 : Int} {k0 k1 k2 : Nat} {t : TypeId} : (l3 w.heap.size v0 v1 v2 k0 k1 k2).At (w.alloc (.cells #[.int .i64 v0, .int .u64 (k0 : Nat), .int .i64 v1, .int .u64 (k1 : Nat), .int .i64 v2, .int .u64 (k2 : Nat)] t)).heap.size (w.alloc (.cells #[.int .i64 v0, .int .u64 (k0 : Nat), .int .i64 v1, .int .u64 (k1 : Nat), .int .i64 v2, .int .u64 (k2 : Nat)] t)) := by
  refine Or.inr ⟨w.heap.size, 0, rfl, by simp, by simp, fun i hi => ?_, fun i hi => ?_⟩
  · have : i < 3 := hi
    obtain rfl | rfl | rfl : i = 0 ∨ i = 1 ∨ i = 2 := by omega
    · (simp [go_sem]; rfl)
    · (simp [go_sem]; rfl)
    · (simp [go_sem]; rfl)
  · have : i < 3 := hi
    obtain rfl | rfl | rfl : i = 0 ∨ i = 1 ∨ i = 2 := by omega
    · (simp [go_sem]; rfl)
    · (simp [go_sem]; rfl)
    · (simp [go_sem]; rfl)
theorem l3_eq {g : Nat} {v0 v1 v2 : Int} {k0 k1 k2 : Nat} : LEq (l3 g v0 v1 v2 k0 k1 k2) (lstOf [(v0, k0), (v1, k1), (v2, k2)]) := by
  refine ⟨rfl, fun i hi => ?_⟩
  have : i < 3 := hi
  obtain rfl | rfl | rfl : i = 0 ∨ i = 1 ∨ i = 2 := by omega
  · exact ⟨rfl, rfl⟩
  · exact ⟨rfl, rfl⟩
  · exact ⟨rfl, rfl⟩
/-- The number behind i rounds. -/
def cuN : Nat → Nat
  | 0 => 1
  | i + 1 => sevN i
theorem cuN_step (i : Nat) (hi : i < 3) : (Ob.toG (cuN i) * Ob.toG 7).val = sevN i := by
  obtain rfl | rfl | rfl : i = 0 ∨ i = 1 ∨ i = 2 := by omega
  · decide +kernel
  · decide +kernel
  · decide +kernel
theorem cuN_lt (i : Nat) : cuN i < 18446744073709551616 := by
  match i with
  | 0 => decide
  | 1 => decide
  | 2 => decide
  | i + 3 => show 343 < _; decide
theorem sevN_lt (i : Nat) : sevN i < 18446744073709551616 := cuN_lt (i + 1)
/-- The variable behind i rounds. -/
def xN (n c i : Nat) : Nat := if i = 0 then c else n + 2 * i - 1
theorem Mdl.zero {r : Nat → Nat} {w : World} {b : Nat} {S : Mk} (h : Mdl r w b S) (k : Nat) (hk : w.heap.size ≤ k) : r k = 0 := Decidable.byContradiction fun hr => by have := h.lt k hr; omega
/-- A round's list is told in variables that there are: nothing turns. -/
theorem Mk.isL_id {S : Mk} {L : Lst} (h : L.In S.n) : LEq (S.isL L) L := ⟨rfl, fun i hi => ⟨by
  obtain ⟨h1, h2⟩ := h i hi
  show ((S.is (L.V i) : Nat) : Int) = L.V i
  unfold Mk.is
  rw [if_pos ⟨h1, h2⟩]
  omega, rfl⟩⟩
theorem valL_leq {L M : Lst} (h : LEq L M) (S : Mk) : S.val L = S.val M := h.val _ _
theorem mjustF (v : Nat) (hv : v < 9223372036854775808) (w : World) : Calls Try.prog 33 #[.int .i64 (v : Nat)] w fun e w' => ∃ L : Lst, e = .returned L.val ∧ L.Ok ∧ L.n = 1 ∧ LEq L (just v) ∧ L.At w'.heap.size w' ∧ Below w.heap.size w w' ∧ ∀ k, L.val.ownBlock = some k → w.heap.size ≤ k := by
  go_enter Try.func33, Try.ntmps33
  go_wp2
  go_ret
  refine ⟨⟨some ⟨w.heap.size, 0, none⟩, 1, 1, fun _ => (v : Nat), fun _ => 1⟩, rfl, ⟨fun _ => (by show -9223372036854775808 ≤ (v : Int); omega), fun _ => (by show (v : Int) < 9223372036854775808; omega), fun _ => (by show 1 < 18446744073709551616; decide), Nat.le_refl _, (by show 1 ≤ 9223372036854775807; decide)⟩, rfl, ⟨rfl, fun i hi => ?_⟩, ?_, by (repeat' (first | (with_reducible first | exact Below.refl _ _ | assumption | refine Below.alloc ?_ ?_ _ | refine Below.drew ?_ | refine below_drewN ?_ _ | refine Below.setCell ?_ ?_ _ | refine below_via (by with_reducible assumption) ?_ ?_) | omega | (simp only [szs]; omega) | (simp only [szs] at *; omega))), fun k hk => ?_⟩
  · obtain rfl : i = 0 := by have : i < 1 := hi; omega
    exact ⟨rfl, rfl⟩
  · refine Or.inr ⟨w.heap.size, 0, rfl, by simp, by simp, fun i hi => ?_, fun i hi => ?_⟩
    · obtain rfl : i = 0 := by have : i < 1 := hi; omega
      simp [go_sem]
    · obtain rfl : i = 0 := by have : i < 1 := hi; omega
      simp [go_sem]
  · have e : w.heap.size = k := by simpa [Lst.val, Value.ownBlock] using hk
    omega
set_option maxRecDepth 4000 in
set_option maxHeartbeats 8000000 in
theorem mtwoW (r : Nat → Nat) (b : Nat) (S : Mk) (hG : S.Good) (hn : S.n ≤ 90000) (hm : S.m ≤ 90000) (a c : Nat) (ha : a < S.n) (hc : c < S.n) (w : World) (h : Mdl r w b S) :
    Calls Try.prog 42 #[.pointer (some ⟨b, 0, none⟩), .int .i64 (a : Nat), .int .i64 (c : Nat)] w fun e w' => e = .returned (.int .i64 ((S.n + 6 : Nat) : Int)) ∧ After r w w' b (S.two a c) := by
  have hG' : Hid S.Good := hG
  have hstart : Hid (After r w w b (S.rounds a c 0)) := After.same h (Below.refl _ _)
  have hm' : Hid (∀ i, i ≤ 3 → (S.rounds a c i).m ≤ 90006) := fun i hi => by have := (Chain.rounds ha hc hG.n1 i).m; omega
  clear h hG
  go_enter Try.func42, Try.ntmps42
  go_wp2
  go_loopw [7, 8, 9] (fun sx sc si wr => ∃ (i X C : Nat), i ≤ 3 ∧ sx = .int .i64 (X : Nat) ∧ sc = .int .u64 (C : Nat) ∧ si = .int .i64 i ∧ Hid (X = xN S.n c i) ∧ Hid (C = cuN i) ∧ Hid (After r w wr b (S.rounds a c i))) (fun _ _ si _ => 3 - (intOf si).toNat)
  case atStart => exact ⟨0, c, 1, by omega, rfl, rfl, rfl, rfl, rfl, hstart⟩
  case round =>
    clear hstart
    obtain ⟨i, X, C, hi, rfl, rfl, rfl, hX, hC, hA⟩ := hrel
    have hxlt : X < (S.rounds a c i).n := by rw [hX.out]; exact rounds_x hc
    have hnn := Mk.rounds_n S a c i
    have halt : a < (S.rounds a c i).n := by omega
    obtain ⟨s, m1, g1, g2, g3⟩ := hA.out
    have g1' : Hid (∀ k, s k ≠ 0 → r k ≠ 0 ∨ w.heap.size ≤ k) := g1
    have g2' : Hid (∀ k, r k ≠ 0 → s k = r k) := g2
    have g3' : Hid (KeepO (fun k => r k ≠ 0) w wr) := g3
    have m1' : Hid (Mdl s wr b (S.rounds a c i)) := m1
    have gG : Hid (S.rounds a c i).Good := Mk.Good.rounds hG'.out ha hc i
    clear m1 g1 g2 g3 hA
    by_cases hlt : i < 3
    · have hlt' : (i : Int) < 3 := by omega
      have cM := gmulW C 7 (by rw [hC.out]; exact cuN_lt i) (by decide)
      rw [show (Ob.toG C * Ob.toG 7).val = sevN i by rw [hC.out]; exact cuN_step i hlt] at cM
      have q7 : (((7 : Nat) : Int)) = 7 := rfl
      rw [q7] at cM
      have hq := sevN_lt i
      have hC2 : Hid (sevN i = cuN (i + 1)) := rfl
      have hX2 : Hid ((S.rounds a c i).n + 1 = xN S.n c (i + 1)) := by show _ = (if i + 1 = 0 then c else S.n + 2 * (i + 1) - 1); rw [if_neg (by omega)]; omega
      have eR : Hid (S.rounds a c (i + 1) = ((S.rounds a c i).mulL (rndL X a i) (rndL X a i)).mulL (just (S.rounds a c i).n) (rndL X a i)) := by rw [hX.out]; rfl
      have inL : Hid ((rndL X a i).In (S.rounds a c i).n) := rndL_in hxlt halt
      obtain ⟨q, hqq⟩ : ∃ q, Hid (sevN i = q) := ⟨_, rfl⟩
      have eL : Hid (∀ g, LEq (l3 g (X : Nat) (a : Nat) 0 1 1 q) (rndL X a i)) := fun g => by rw [← hqq.out]; exact l3_eq
      rw [hqq.out] at cM hC2 hq
      obtain ⟨S1, hS1⟩ : ∃ S1, Hid (S.rounds a c i = S1) := ⟨_, rfl⟩
      obtain ⟨M, hM⟩ : ∃ M, Hid (rndL X a i = M) := ⟨_, rfl⟩
      have hm1 := hm'.out i hi
      rw [hM.out] at eR inL eL
      rw [hS1.out] at eR inL m1' gG hX2 hnn hxlt halt hm1
      have hx63 : X < 9223372036854775808 := by omega
      have ha63 : a < 9223372036854775808 := by omega
      have n1 : S1.n ≤ 90006 := by omega
      have hnn' : Hid (S1.n = S.n + 2 * i) := hnn
      clear hnn
      have oL : Hid (∀ g, (l3 g (X : Nat) (a : Nat) 0 1 1 q).Ok) := fun g => l3_ok (by omega) (by omega) (by omega) (by decide) (by decide) hq
      clear hqq hS1 hM hX hC hq hxlt halt hG' hm'
      go_upto_region 8 with (first | (go_at_call 37; first | (with_reducible refine (cM _).mono ?_; rintro e w' ⟨rfl, rfl⟩)))
      have tL : Hid ((l3 wr.heap.size (X : Nat) (a : Nat) 0 1 1 q).At (wr.alloc (.cells #[.int .i64 (X : Nat), .int .u64 1, .int .i64 (a : Nat), .int .u64 1, .int .i64 0, .int .u64 (q : Nat)] 61)).heap.size (wr.alloc (.cells #[.int .i64 (X : Nat), .int .u64 1, .int .i64 (a : Nat), .int .u64 1, .int .i64 0, .int .u64 (q : Nat)] 61))) := l3_at
      have m2 : Hid (Mdl s (wr.alloc (.cells #[.int .i64 (X : Nat), .int .u64 1, .int .i64 (a : Nat), .int .u64 1, .int .i64 0, .int .u64 (q : Nat)] 61)) b S1) := m1'.out.below ((Below.refl _ _).alloc (Nat.le_refl _) _)
      have k2 : Hid (KeepO (fun k => r k ≠ 0) w (wr.alloc (.cells #[.int .i64 (X : Nat), .int .u64 1, .int .i64 (a : Nat), .int .u64 1, .int .i64 0, .int .u64 (q : Nat)] 61))) := g3'.out.trans (O' := fun _ => False) (KeepO.of_below ((Below.refl _ _).alloc (Nat.le_refl _) _)) fun _ _ h => h.elim
      have oB : Hid (∀ k, (Lst.val (l3 wr.heap.size (X : Nat) (a : Nat) 0 1 1 q)).ownBlock = some k → s k = 0 ∧ k < (wr.alloc (.cells #[.int .i64 (X : Nat), .int .u64 1, .int .i64 (a : Nat), .int .u64 1, .int .i64 0, .int .u64 (q : Nat)] 61)).heap.size) := fun k hk => by
        have e : wr.heap.size = k := by simpa [Lst.val, l3, Value.ownBlock] using hk
        exact ⟨m1'.out.zero k (by omega), by simp only [szs]; omega⟩
      have oL2 := oL.out wr.heap.size
      have eL2 := eL.out wr.heap.size
      generalize hLg : l3 wr.heap.size (X : Nat) (a : Nat) 0 1 1 q = L at *
      have hLv : L.val = .slice (some ⟨wr.heap.size, 0, none⟩) 3 3 := by rw [← hLg]; rfl
      have nL : L.n ≤ 1000 := by rw [← hLg]; show 3 ≤ 1000; decide
      have oL3 : Hid L.Ok := oL2
      have eL3 : Hid (LEq L M) := eL2
      have nL3 : Hid (L.n ≤ 1000) := nL
      generalize (wr.alloc (.cells #[.int .i64 (X : Nat), .int .u64 1, .int .i64 (a : Nat), .int .u64 1, .int .i64 0, .int .u64 (q : Nat)] 61)) = W1 at *
      generalize wr.heap.size = g at *
      clear hLg oL2 eL2 nL oL eL g3' m1' cM
      have c1 := mmulW s b S1 gG.out (by omega) (by omega) L L oL3.out oL3.out nL3.out nL3.out M M eL3.out eL3.out W1 m2.out tL.out tL.out (fun k hk => (oB.out k hk).1) (fun k hk => (oB.out k hk).1)
      have hLv' : Hid (L.val = .slice (some ⟨g, 0, none⟩) 3 3) := hLv
      rw [hLv] at c1
      clear hLv
      go_upto_region 9 with (go_at_call 32; (with_reducible refine c1.mono ?_); rintro e w2 ⟨rfl, a2⟩)
      obtain ⟨s2, m3, h1, h2, h3⟩ := a2.get
      clear c1 a2
      have m3' : Hid (Mdl s2 w2 b (S1.mulL M M)) := m3
      have h1' : Hid (∀ k, s2 k ≠ 0 → s k ≠ 0 ∨ W1.heap.size ≤ k) := h1
      have tL2 : Hid (L.At w2.heap.size w2) := at_keep tL.out h3 fun k hk => (oB.out k hk).1
      have oB2 : Hid (∀ k, L.val.ownBlock = some k → s2 k = 0) := fun k hk => Decidable.byContradiction fun hh => by
        rcases h1 k hh with h | h
        · exact h (oB.out k hk).1
        · have := (oB.out k hk).2; omega
      have zk2 := k2.out.size
      have j1 : Hid (∀ k, s2 k ≠ 0 → r k ≠ 0 ∨ w.heap.size ≤ k) := fun k hk => by
        rcases h1 k hk with h | h
        · exact g1'.out k h
        · exact Or.inr (by omega)
      have j2 : Hid (∀ k, r k ≠ 0 → s2 k = r k) := fun k hk => by
        have e := g2'.out k hk
        exact (h2 k (by rw [e]; exact hk)).trans e
      have j3 : Hid (KeepO (fun k => r k ≠ 0) w w2) := k2.out.trans h3 fun i hi h => by
        rcases g1'.out i h with h | h
        · exact h
        · omega
      have gG2 : Hid (S1.mulL M M).Good := gG.out.mulL inL.out inL.out
      clear m3 h1 h2 h3 tL oB m2 k2 g1' g2' gG zk2 h1'
      have cJ := mjustF S1.n (by omega)
      unfold Lst.val at cJ
      have n2 : (S1.mulL M M).n ≤ 100000 := by show S1.n + 1 ≤ 100000; omega
      have hm2 : (S1.mulL M M).m ≤ 100000 := by show S1.m + 1 ≤ 100000; omega
      have eR3 : Hid (S.rounds a c (i + 1) = (S1.mulL M M).mulL (just S1.n) M) := eR
      have q1 : Hid ((S1.mulL M M).n = S1.n + 1) := rfl
      generalize S1.mulL M M = S2 at *
      have hX3 : Hid (S2.n = xN S.n c (i + 1)) := q1.out.trans hX2.out
      clear q1 hX2 eR
      have cmul := fun (P0 : Lst) (o4 : P0.Ok) (n5 : P0.n ≤ 1000) (e4 : LEq P0 (just S1.n)) (w4 : World) (b4 : Below w2.heap.size w2 w4) (t4 : P0.At w4.heap.size w4) (f4 : ∀ k, P0.val.ownBlock = some k → w2.heap.size ≤ k) =>
        mmulW s2 b S2 gG2.out n2 hm2 P0 L o4 oL3.out n5 nL3.out (just S1.n) M e4 eL3.out w4 (m3'.out.below b4) t4 (TrmsAt.to tL2.out b4 (Nat.le_refl _)) (fun k hk => m3'.out.zero k (f4 k hk)) oB2.out
      rw [hLv'.out] at cmul
      have cmul' : Hid (∀ (P0 : Lst) (o4 : P0.Ok) (n5 : P0.n ≤ 1000) (e4 : LEq P0 (just S1.n)) (w4 : World) (b4 : Below w2.heap.size w2 w4) (t4 : P0.At w4.heap.size w4) (f4 : ∀ k, P0.val.ownBlock = some k → w2.heap.size ≤ k), Calls Try.prog 32 #[.pointer (some ⟨b, 0, none⟩), .slice P0.ad P0.n P0.c, .slice (some ⟨g, 0, none⟩) 3 3] w4 fun e w' => e = .returned (.int .i64 (S2.n : Nat)) ∧ After s2 w4 w' b (S2.mulL (just S1.n) M)) := cmul
      clear cmul
      have hi' : i ≤ 3 := hi
      clear n1 hm1 n2 hm2 hm hn hi
      go_upto_region 5 with (first | (go_at_call 33; (with_reducible refine (cJ _).mono ?_); rintro e w4 ⟨P0, rfl, o4, n4, e4, t4, b4, f4⟩; have n5 : Hid (P0.n ≤ 1000) := (by show _ ≤ _; omega); have f5 : Hid (∀ k, P0.val.ownBlock = some k → w2.heap.size ≤ k) := f4; clear n4 f4) | (go_at_call 32; (with_reducible refine (cmul'.out P0 o4 n5.out e4 _ b4 t4 f5.out).mono ?_); rintro e w5 ⟨rfl, a5⟩))
      have hend : Hid (After r w w5 b (S.rounds a c (i + 1))) := by
        show After r w w5 b (S.rounds a c (i + 1))
        rw [eR3.out]
        exact After.then j1.out j2.out j3.out (After.of_below b4 a5)
      clear a5
      go_wp2
      go_roundw
      case rel => exact ⟨i + 1, S2.n, q, by omega, by first | rfl | trivial, by first | rfl | trivial, by go_num, hX3, hC2, hend⟩
      case measure => first | (simp [intOf]; done) | (simp [intOf]; omega)
    · obtain rfl : i = 3 := by omega
      have hlt' : ¬ ((3 : Int) < 3) := by omega
      have hXe : X = S.n + 5 := hX.out
      have eT : Hid (S.two a c = (S.rounds a c 3).linear (endL X a c)) := by show _ = _; rw [hXe]; rfl
      have hclt : c < (S.rounds a c 3).n := by omega
      have inL : Hid ((endL X a c).In (S.rounds a c 3).n) := endL_in hxlt halt hclt
      have hm3 := hm'.out 3 (by omega)
      have hrv : Hid (((S.rounds a c 3).n : Nat) = S.n + 6) := by show _ = _; omega
      have tL : Hid ((l3 wr.heap.size (X : Nat) (a : Nat) (c : Nat) 1 2 1).At (wr.alloc (.cells #[.int .i64 (X : Nat), .int .u64 1, .int .i64 (a : Nat), .int .u64 2, .int .i64 (c : Nat), .int .u64 1] 61)).heap.size (wr.alloc (.cells #[.int .i64 (X : Nat), .int .u64 1, .int .i64 (a : Nat), .int .u64 2, .int .i64 (c : Nat), .int .u64 1] 61))) := l3_at
      have oL : Hid ((l3 wr.heap.size (X : Nat) (a : Nat) (c : Nat) 1 2 1).Ok) := l3_ok (by omega) (by omega) (by omega) (by decide) (by decide) (by decide)
      have eL : LEq (l3 wr.heap.size (X : Nat) (a : Nat) (c : Nat) 1 2 1) (endL X a c) := l3_eq
      have inL2 : (l3 wr.heap.size (X : Nat) (a : Nat) (c : Nat) 1 2 1).In (S.rounds a c 3).n := fun i hi => by
        rw [(eL.2 i hi).1]
        exact inL.out i hi
      have hb1 : Below wr.heap.size wr (wr.alloc (.cells #[.int .i64 (X : Nat), .int .u64 1, .int .i64 (a : Nat), .int .u64 2, .int .i64 (c : Nat), .int .u64 1] 61)) := (Below.refl _ _).alloc (Nat.le_refl _) _
      have cL := mlinearW s b (S.rounds a c 3) gG.out (by omega) (by omega) _ oL.out (by show 3 ≤ 1000; decide) (endL X a c) ((Mk.isL_id inL2).trans eL) _ (m1'.out.below hb1) tL.out
      have cL' : Calls Try.prog 31 #[.pointer (some ⟨b, 0, none⟩), .slice (some ⟨wr.heap.size, 0, none⟩) 3 3] (wr.alloc (.cells #[.int .i64 (X : Nat), .int .u64 1, .int .i64 (a : Nat), .int .u64 2, .int .i64 (c : Nat), .int .u64 1] 61)) fun e w' => e = .returned (.int .i64 ((S.n + 6 : Nat) : Int)) ∧ After s (wr.alloc (.cells #[.int .i64 (X : Nat), .int .u64 1, .int .i64 (a : Nat), .int .u64 2, .int .i64 (c : Nat), .int .u64 1] 61)) w' b (S.two a c) := by
        rw [eT.out, ← hrv.out]
        exact cL
      have hb1' : Hid (Below wr.heap.size wr (wr.alloc (.cells #[.int .i64 (X : Nat), .int .u64 1, .int .i64 (a : Nat), .int .u64 2, .int .i64 (c : Nat), .int .u64 1] 61))) := hb1
      clear cL tL oL eL inL2 inL hb1 hXe hX hC hnn hm3 hxlt halt hclt hrv eT gG m1' hG' hm'
      go_wp2_with (go_at_call 31; (with_reducible refine cL'.mono ?_); rintro e w5 ⟨rfl, a5⟩; have hend : Hid (After r w w5 b (S.two a c)) := After.then g1'.out g2'.out g3'.out (After.of_below hb1'.out a5); clear a5)
      go_ret
      exact ⟨by simp, hend.out⟩
end Go.Proofs.Ytdbolfmmlmoiaaa

namespace Go.Proofs.Ytdbolfmmlmoiaaa
open Go.RowKit Go.Proofs
set_option linter.unusedVariables false
set_option linter.unusedSimpArgs false
theorem idInfo : ∃ i, Try.prog.info? 3 = some i ∧ i.size = 1 ∧ i.bytes = 8 ∧ i.zero = some (.int .i64 0) := by
  have h : (Try.prog.info? 3).map (fun i => (i.size, i.bytes, i.zero)) = some (1, 8, some (.int .i64 0)) := by kernel_rfl
  cases hi : Try.prog.info? 3 with
  | none => rw [hi] at h; cases h
  | some i =>
    rw [hi] at h
    simp only [Option.map_some, Option.some.injEq, Prod.mk.injEq] at h
    exact ⟨i, rfl, h.1, h.2.1, h.2.2⟩
/-- The values of integers. -/
def ials (z : Nat → Int) (n : Nat) : List Value := (List.range n).map fun i => .int .i64 (z i)
theorem ials_succ (z : Nat → Int) (n : Nat) : ials z (n + 1) = ials z n ++ [.int .i64 (z n)] := by simp [ials, List.range_succ]
theorem ials_get (z : Nat → Int) (n i : Nat) (h : i < n) : (ials z n)[i]? = some (.int .i64 (z i)) := by simp [ials, h]
/-- A row of one's own of n integers. -/
def OwnI (w : World) (v : Value) (n : Nat) (z : Nat → Int) : Prop := w.ownsRow 0 3 1 v n (ials z n)
theorem OwnI.nil (w : World) (z : Nat → Int) : OwnI w (.slice none 0 0) 0 z := World.ownsRow_nil w 0 _ 1
/-- As a slice: its integers. -/
structure IdsIn (w : World) (b off n : Nat) (z : Nat → Int) : Prop where
  lt : b < w.heap.size
  at_ : ∀ i, i < n → w.cell? ⟨b, off + i, none⟩ = some (.int .i64 (z i))
def SrcI (w : World) (a : Option Addr) (n : Nat) (z : Nat → Int) : Prop := n = 0 ∨ ∃ b off, a = some ⟨b, off, none⟩ ∧ IdsIn w b off n z
theorem OwnI.src {w : World} {v : Value} {n : Nat} {z : Nat → Int} (h : OwnI w v n z) : ∃ a c, v = .slice a n c ∧ SrcI w a n z := by
  rcases h.2 with ⟨rfl, rfl⟩ | ⟨g, cap, cur, rfl, h1, h2, h3, h4, h5, h6⟩
  · exact ⟨none, 0, rfl, Or.inl rfl⟩
  · refine ⟨_, cap, rfl, Or.inr ⟨g, 0, rfl, (World.ownsRow.lt h g rfl).2, fun i hi => ?_⟩⟩
    have := World.ownsRow.cells h (g := g) rfl i _ (ials_get z n i hi)
    rw [add_none] at this
    exact this
theorem wpList_appIF {ops : Array Oper} {rest : List Oper} {o : Oper} {a : Act} {w : World} {Q : Exit → Act → World → Prop} (hgd : o.guard = none) (s x : Operand)
    (ho : o.op = .call { callee := .builtin .append, args := #[s, x], argTypes := #[36, 36] }) (v : Value) (n : Nat) (z : Nat → Int) (hs : a.eval s = v) (hown : OwnI w v n z) (g : Nat) (X : Int) (hx : a.eval x = .slice (some ⟨g, 0, none⟩) 1 1) (hc : w.cell? ⟨g, 0, none⟩ = some (.int .i64 X)) (hX : z n = X) (hn : n ≤ 1000000)
    (h : ∀ g' cap w', OwnI w' (.slice (some ⟨g', 0, none⟩) (n + 1) cap) (n + 1) z → w.grownBy w' v.ownBlock → (v.ownBlock = some g' ∨ g' = w.heap.size) → wpList Try.prog ops Q rest (a.put o.dst (.slice (some ⟨g', 0, none⟩) (n + 1) cap)) w') : wpList Try.prog ops Q (o :: rest) a w := by
  obtain ⟨i0, hi, hz1, hz2, hz0⟩ := idInfo
  refine wpList_append_lies _ hgd s x 36 ho 0 3 i0 _ 1 8 Try.underlying36 hi hz0 hz1 hz2 rfl (by decide) v n _ hs hown ⟨g, 0, none⟩ 1 1 [.int .i64 X] hx rfl
    (fun j u h => by cases j with | zero => (simp at h; subst h; rw [add_none]; exact hc) | succ j => simp at h) (by simp [Value.oneCell']) (by decide) (by unfold maxLen; omega) (by omega) (by omega) w.heap.size rfl ?_
  intro g' cap w' h1 h2 h3 _
  rw [← hX, ← ials_succ] at h1
  exact h g' cap w' h1 h2 h3
theorem wpList_appTF {ops : Array Oper} {rest : List Oper} {o : Oper} {a : Act} {w : World} {Q : Exit → Act → World → Prop} (hgd : o.guard = none) (s x : Operand)
    (ho : o.op = .call { callee := .builtin .append, args := #[s, x], argTypes := #[35, 35] }) (v : Value) (n : Nat) (V : Nat → Int) (K : Nat → Nat) (hs : a.eval s = v) (hown : OwnT w 0 v n V K) (g : Nat) (X : Int) (k : Nat) (hx : a.eval x = .slice (some ⟨g, 0, none⟩) 1 1) (hc : w.cell? ⟨g, 0, none⟩ = some (.int .i64 X)) (hd : w.cell? ⟨g, 1, none⟩ = some (.int .u64 (k : Nat))) (hX : V n = X) (hk : K n = k) (hn : n ≤ 1000000)
    (h : ∀ g' cap w', OwnT w' 0 (.slice (some ⟨g', 0, none⟩) (n + 1) cap) (n + 1) V K → w.grownBy w' v.ownBlock → (v.ownBlock = some g' ∨ g' = w.heap.size) → wpList Try.prog ops Q rest (a.put o.dst (.slice (some ⟨g', 0, none⟩) (n + 1) cap)) w') : wpList Try.prog ops Q (o :: rest) a w := by
  obtain ⟨i0, hi, hz1, hz2, hz0⟩ := trmInfo
  refine wpList_append_lies _ hgd s x 35 ho 0 61 i0 _ 2 16 Try.underlying35 hi hz0 hz1 hz2 rfl (by decide) v n _ hs hown ⟨g, 0, none⟩ 1 1 [.int .i64 X, .int .u64 (k : Nat)] hx rfl
    (fun j u h => by
      match j with
      | 0 => simp at h; subst h; rw [add_none]; exact hc
      | 1 => simp at h; subst h; rw [add_none]; exact hd
      | j + 2 => simp at h) (by simp [Value.oneCell']) (by decide) (by unfold maxLen; omega) (by omega) (by omega) w.heap.size rfl ?_
  intro g' cap w' h1 h2 h3 _
  have e : tals V K (n + 1) = tals V K n ++ [.int .i64 X, .int .u64 (k : Nat)] := by show tals V K n ++ [_, _] = _; rw [hX, hk]
  rw [← e] at h1
  exact h g' cap w' h1 h2 h3
/-- Roles behind an append to a row that has none: the row still has none, the maker is as it was. -/
theorem Mdl.beside {r : Nat → Nat} {w w' : World} {b : Nat} {S : Mk} (h : Mdl r w b S) {v : Value} (hv : ∀ k, v.ownBlock = some k → r k = 0) (hg : w.grownBy w' v.ownBlock) : Mdl r w' b S ∧ KeepO (fun k => v.ownBlock = some k) w w' := by
  have hk : KeepO (fun k => v.ownBlock = some k) w w' := KeepO.grown hg fun k hk => hk
  exact ⟨h.keep hk fun k hr hk => hr (hv k hk), hk⟩
theorem new_zero {r : Nat → Nat} {w : World} {b : Nat} {S : Mk} (h : Mdl r w b S) {v : Value} (hv : ∀ k, v.ownBlock = some k → r k = 0) {g n c : Nat} (hl : v.ownBlock = some g ∨ g = w.heap.size) : ∀ k, (Value.slice (some ⟨g, 0, none⟩) n c).ownBlock = some k → r k = 0 := fun k hk => by
  have e : g = k := by simpa [Value.ownBlock] using hk
  subst e
  rcases hl with hl | hl
  · exact hv g hl
  · exact h.zero g (by omega)
end Go.Proofs.Ytdbolfmmlmoiaaa

namespace Go.Proofs.Ytdbolfmmlmoiaaa
open Go.RowKit Go.Proofs
set_option linter.unusedVariables false
set_option linter.unusedSimpArgs false
attribute [local go_sem ↓] Go.wp_at_zero Go.wp_at_succ
/-- How many bits are asked for. -/
def bitsOf (n : Int) : Nat := if 0 ≤ n ∧ n ≤ 58 then n.toNat else 0
theorem bitsOf_le (n : Int) : bitsOf n ≤ 58 := by unfold bitsOf; split <;> omega
theorem own_keep0 {r : Nat → Nat} {w w1 : World} {base n size : Nat} {e : TypeId} {v : Value} {xs : List Value} (h : w.ownsRow base e size v n xs) (hk : KeepO (fun k => r k ≠ 0) w w1) (hl : ∀ k, v.ownBlock = some k → r k = 0) : w1.ownsRow base e size v n xs :=
  own_keep h hk fun k h1 h2 => h2 (hl k h1)
/-- Roles grow: a row without one, that was there, still has none. -/
theorem zero_on {r s : Nat → Nat} {w : World} {v : Value} {base n size : Nat} {e : TypeId} {xs : List Value} (h : w.ownsRow base e size v n xs) (hv : ∀ k, v.ownBlock = some k → r k = 0) (hs : ∀ k, s k ≠ 0 → r k ≠ 0 ∨ w.heap.size ≤ k) : ∀ k, v.ownBlock = some k → s k = 0 := fun k hk => Decidable.byContradiction fun hh => by
  rcases hs k hh with h1 | h1
  · exact h1 (hv k hk)
  · have := (World.ownsRow.lt h k hk).2; omega
theorem bitsN_m (S : Mk) (w : Nat) : ∀ i, (S.bitsN w i).m = S.m + i
  | 0 => rfl
  | i + 1 => by show (S.bitsN w i).m + 1 = _; rw [bitsN_m S w i]; omega
/-- What holds behind i bits. -/
def BitInv (r : Nat → Nat) (b : Nat) (S : Mk) (w : World) (W0 i : Nat) (wr : World) (o u : Value) : Prop := ∃ s : Nat → Nat, Mdl s wr b (S.bitsN W0 i) ∧ (∀ k, s k ≠ 0 → r k ≠ 0 ∨ w.heap.size ≤ k) ∧ (∀ k, r k ≠ 0 → s k = r k) ∧ KeepO (fun k => r k ≠ 0) w wr ∧
  OwnI wr o i (fun j => ((S.n + j : Nat) : Int)) ∧ (∀ k, o.ownBlock = some k → s k = 0 ∧ w.heap.size ≤ k) ∧ OwnT wr 0 u i (fun j => ((S.n + j : Nat) : Int)) (fun j => 2 ^ j) ∧ (∀ k, u.ownBlock = some k → s k = 0 ∧ w.heap.size ≤ k) ∧ ∀ k, o.ownBlock = some k → u.ownBlock ≠ some k
set_option maxRecDepth 8000 in
set_option maxHeartbeats 16000000 in
theorem mbitsW (r : Nat → Nat) (b : Nat) (S : Mk) (hG : S.Good) (hn : S.n ≤ 90000) (hm : S.m ≤ 90000) (a : Nat) (ha : a < S.n) (n : Int) (w : World) (h : Mdl r w b S) :
    Calls Try.prog 35 #[.pointer (some ⟨b, 0, none⟩), .int .i64 (a : Nat), .int .i64 n] w fun e w' => ∃ v, e = .returned v ∧ OwnI w' v (bitsOf n) (fun j => ((S.n + j : Nat) : Int)) ∧ (∀ k, v.ownBlock = some k → w.heap.size ≤ k) ∧ After r w w' b (S.bits a (bitsOf n)) := by
  have hG' : Hid S.Good := hG
  have h' : Hid (Mdl r w b S) := h
  obtain ⟨vr, vv, R, t, hS, hO⟩ := h
  obtain ⟨av, cv, rfl, hsrc⟩ := t.src
  have c3 := t.c3
  have hblt := t.blt
  have hv : ∀ i, S.v i < 288230376287764481 := hG.lt
  obtain ⟨ga, oa, rfl, lga, wa⟩ : ∃ g o, av = some ⟨g, o, none⟩ ∧ g < w.heap.size ∧ Wds w g o S.n S.v := by
    rcases hsrc with hz | ⟨g, o, h1, h2, h3⟩
    · omega
    · exact ⟨g, o, h1, h2, h3⟩
  have da := wa.at_ a ha
  obtain ⟨N, hN⟩ : ∃ N, Hid (bitsOf n = N) := ⟨_, rfl⟩
  have hN58 : N ≤ 58 := by rw [← hN.out]; exact bitsOf_le n
  rw [hN.out]
  obtain ⟨W0, hW0⟩ : ∃ W0, Hid (S.v a = W0) := ⟨_, rfl⟩
  rw [hW0.out] at da
  have hW0lt : W0 < 288230376287764481 := by rw [← hW0.out]; exact hv a
  have ha0 : (0 : Int) ≤ (a : Int) := by omega
  have haS : (a : Int) < (S.n : Int) := by omega
  clear t hS hO hsrc wa lga hG hv
  have hcase : (n < 0 ∧ N = 0) ∨ (¬ n < 0 ∧ 58 < n ∧ N = 0) ∨ (¬ n < 0 ∧ ¬ 58 < n ∧ n = (N : Int)) := by
    have e := hN.out
    unfold bitsOf at e
    split at e <;> omega
  clear hN
  have hstart : Hid (BitInv r b S w W0 0 w (.slice none 0 0) (.slice none 0 0)) := ⟨r, h'.out, fun k hk => Or.inl hk, fun _ _ => rfl, KeepO.refl _ _, OwnI.nil _ _, (fun k hk => (by cases hk)), OwnT.nil _ _ _ _, (fun k hk => (by cases hk)), (fun k hk => (by cases hk))⟩
  have hmm : Hid (∀ i, i ≤ 58 → (S.bitsN W0 i).m ≤ 90058) := fun i hi => by have := bitsN_m S W0 i; omega
  clear h'
  rcases hcase with ⟨hc, rfl⟩ | ⟨hc, hc2, rfl⟩ | ⟨hc, hc2, rfl⟩
  · go_enter Try.func35, Try.ntmps35
    go_wp2
    go_loopw [7, 8, 9, 10, 11] (fun so su sw sk si wr => ∃ (i wv kv : Nat) (o u : Value), o = so ∧ u = su ∧ sw = .int .u64 (wv : Nat) ∧ sk = .int .u64 (kv : Nat) ∧ si = .int .i64 i ∧ i ≤ 0 ∧ Hid (wv = W0 / 2 ^ i) ∧ Hid (kv = 2 ^ i) ∧ Hid (BitInv r b S w W0 i wr o u)) (fun _ _ _ _ si _ => 0 - (intOf si).toNat)
    case atStart => exact ⟨0, W0, 1, _, _, rfl, rfl, rfl, rfl, rfl, by omega, (by show W0 = W0 / 1; omega), rfl, hstart⟩
    case round =>
      clear hstart
      obtain ⟨i, wv, kv, o, u, rfl, rfl, rfl, rfl, rfl, hi, hw, hk, hI⟩ := hrel
      obtain rfl : i = 0 := by omega
      have hlt' : ¬ (0 : Int) < 0 := by omega
      obtain ⟨s, ms, g1, g2, g3, hOI, hOz, hOT, hUz, hne⟩ := hI.out
      have ms' : Hid (Mdl s wr b (S.bitsN W0 0)) := ms
      have g1' : Hid (∀ k, s k ≠ 0 → r k ≠ 0 ∨ w.heap.size ≤ k) := g1
      have g2' : Hid (∀ k, r k ≠ 0 → s k = r k) := g2
      have g3' : Hid (KeepO (fun k => r k ≠ 0) w wr) := g3
      have oI : Hid (OwnI wr o 0 (fun j => ((S.n + j : Nat) : Int))) := hOI
      have oZ : Hid (∀ k, o.ownBlock = some k → s k = 0 ∧ w.heap.size ≤ k) := hOz
      have hOT2 := OwnT.congr (V' := fun j => if j < 64 then ((S.n + j : Nat) : Int) else 0) (K' := fun j => if j < 64 then 2 ^ j else 0) hOT fun j hj => ⟨(if_pos (by omega)).symm, (if_pos (by omega)).symm⟩
      obtain ⟨au, cu, rfl, hc1, hc2, hT⟩ := hOT2.trms
      have PO : Hid (Lst.Ok ⟨au, 0, cu, fun j => if j < 64 then ((S.n + j : Nat) : Int) else 0, fun j => if j < 64 then 2 ^ j else 0⟩) := by
        refine ⟨fun j => ?_, fun j => ?_, fun j => ?_, hc1, (by unfold maxLen at hc2; show cu ≤ 9223372036854775807; omega)⟩
        · show _ ≤ (if j < 64 then ((S.n + j : Nat) : Int) else 0); split <;> omega
        · show (if j < 64 then ((S.n + j : Nat) : Int) else 0) < _; split <;> omega
        · show (if j < 64 then 2 ^ j else 0) < _
          split
          · exact Nat.pow_lt_pow_right (show 1 < 2 by decide) (show j < 64 by assumption)
          · decide
      have eP : Hid (LEq ⟨au, 0, cu, fun j => if j < 64 then ((S.n + j : Nat) : Int) else 0, fun j => if j < 64 then 2 ^ j else 0⟩ (bitSum S.n 0)) := ⟨rfl, fun j hj => by
        have hj' : j < 0 := hj
        exact ⟨if_pos (by omega), if_pos (by omega)⟩⟩
      have tP : Hid (Lst.At ⟨au, 0, cu, fun j => if j < 64 then ((S.n + j : Nat) : Int) else 0, fun j => if j < 64 then 2 ^ j else 0⟩ wr.heap.size wr) := hT
      have hbm : Hid ((S.bitsN W0 0).m ≤ 100000) := Nat.le_trans (hmm.out 0 (by omega)) (by decide)
      have eB : Hid (S.bits a 0 = (S.bitsN W0 0).row (bitSum S.n 0) (just 0) (just a)) := by show _ = _; unfold Mk.bits; rw [hW0.out]
      have cJ0 := mjustW 0 (by decide)
      have cJ1 := mjustW a (by omega)
      rw [show (((0 : Nat) : Int)) = 0 from rfl] at cJ0
      unfold Lst.val at cJ0 cJ1
      clear ms g1 g2 g3 hOI hOz hOT hOT2 hUz hne hI hT hc1 hc2 hmm hw hk
      go_upto_region 17 with (first | (go_at_call 33; (with_reducible refine (cJ0 _).mono ?_); rintro e w2 ⟨P0, rfl, o2, n2, e2, t2, b2⟩; have n2' : Hid (P0.n ≤ 1000) := (by show _ ≤ _; omega); clear n2) | (go_at_call 33; (with_reducible refine (cJ1 _).mono ?_); rintro e w3 ⟨P1, rfl, o3, n3, e3, t3, b3⟩; have n3' : Hid (P1.n ≤ 1000) := (by show _ ≤ _; omega); clear n3; have cR := mrowW s b (S.bitsN W0 0) hbm.out ⟨au, 0, cu, fun j => if j < 64 then ((S.n + j : Nat) : Int) else 0, fun j => if j < 64 then 2 ^ j else 0⟩ P0 P1 PO.out o2 o3 (show 0 ≤ 1000 by omega) n2'.out n3'.out (bitSum S.n 0) (just 0) (just a) eP.out e2 e3 w3 ((ms'.out.below b2).below b3) (TrmsAt.to (TrmsAt.to tP.out b2 (Nat.le_refl _)) b3 (Nat.le_refl _)) (TrmsAt.to t2 b3 (Nat.le_refl _)) t3; unfold Lst.val at cR) | (go_at_call 40; (with_reducible refine cR.mono ?_); rintro e w4 ⟨rfl, a4⟩))
      have hb23 : Below wr.heap.size wr w3 := below_via b3 b2 b2.size
      have oI3 : OwnI w3 o 0 (fun j => ((S.n + j : Nat) : Int)) := own_below oI.out hb23 fun k hk => (World.ownsRow.lt oI.out k hk).2
      have oI4 : Hid (OwnI w4 o 0 (fun j => ((S.n + j : Nat) : Int))) := by
        obtain ⟨s4, _, _, _, h4⟩ := a4
        exact own_keep0 oI3 h4 fun k hk => (oZ.out k hk).1
      have hend : Hid (After r w w4 b (S.bits a 0)) := by
        show After _ _ _ _ _
        rw [eB.out]
        exact After.then g1'.out g2'.out g3'.out (After.of_below hb23 a4)
      clear cR a4 oI3 hb23 b2 b3 t2 t3 e2 e3 o2 o3 n2' n3' cJ0 cJ1
      go_wp2
      go_ret
      exact ⟨_, rfl, oI4.out, fun k hk => (oZ.out k hk).2, hend.out⟩

  · go_enter Try.func35, Try.ntmps35
    go_wp2
    go_loopw [7, 8, 9, 10, 11] (fun so su sw sk si wr => ∃ (i wv kv : Nat) (o u : Value), o = so ∧ u = su ∧ sw = .int .u64 (wv : Nat) ∧ sk = .int .u64 (kv : Nat) ∧ si = .int .i64 i ∧ i ≤ 0 ∧ Hid (wv = W0 / 2 ^ i) ∧ Hid (kv = 2 ^ i) ∧ Hid (BitInv r b S w W0 i wr o u)) (fun _ _ _ _ si _ => 0 - (intOf si).toNat)
    case atStart => exact ⟨0, W0, 1, _, _, rfl, rfl, rfl, rfl, rfl, by omega, (by show W0 = W0 / 1; omega), rfl, hstart⟩
    case round =>
      clear hstart
      obtain ⟨i, wv, kv, o, u, rfl, rfl, rfl, rfl, rfl, hi, hw, hk, hI⟩ := hrel
      obtain rfl : i = 0 := by omega
      have hlt' : ¬ (0 : Int) < 0 := by omega
      obtain ⟨s, ms, g1, g2, g3, hOI, hOz, hOT, hUz, hne⟩ := hI.out
      have ms' : Hid (Mdl s wr b (S.bitsN W0 0)) := ms
      have g1' : Hid (∀ k, s k ≠ 0 → r k ≠ 0 ∨ w.heap.size ≤ k) := g1
      have g2' : Hid (∀ k, r k ≠ 0 → s k = r k) := g2
      have g3' : Hid (KeepO (fun k => r k ≠ 0) w wr) := g3
      have oI : Hid (OwnI wr o 0 (fun j => ((S.n + j : Nat) : Int))) := hOI
      have oZ : Hid (∀ k, o.ownBlock = some k → s k = 0 ∧ w.heap.size ≤ k) := hOz
      have hOT2 := OwnT.congr (V' := fun j => if j < 64 then ((S.n + j : Nat) : Int) else 0) (K' := fun j => if j < 64 then 2 ^ j else 0) hOT fun j hj => ⟨(if_pos (by omega)).symm, (if_pos (by omega)).symm⟩
      obtain ⟨au, cu, rfl, hc1, hc2, hT⟩ := hOT2.trms
      have PO : Hid (Lst.Ok ⟨au, 0, cu, fun j => if j < 64 then ((S.n + j : Nat) : Int) else 0, fun j => if j < 64 then 2 ^ j else 0⟩) := by
        refine ⟨fun j => ?_, fun j => ?_, fun j => ?_, hc1, (by unfold maxLen at hc2; show cu ≤ 9223372036854775807; omega)⟩
        · show _ ≤ (if j < 64 then ((S.n + j : Nat) : Int) else 0); split <;> omega
        · show (if j < 64 then ((S.n + j : Nat) : Int) else 0) < _; split <;> omega
        · show (if j < 64 then 2 ^ j else 0) < _
          split
          · exact Nat.pow_lt_pow_right (show 1 < 2 by decide) (show j < 64 by assumption)
          · decide
      have eP : Hid (LEq ⟨au, 0, cu, fun j => if j < 64 then ((S.n + j : Nat) : Int) else 0, fun j => if j < 64 then 2 ^ j else 0⟩ (bitSum S.n 0)) := ⟨rfl, fun j hj => by
        have hj' : j < 0 := hj
        exact ⟨if_pos (by omega), if_pos (by omega)⟩⟩
      have tP : Hid (Lst.At ⟨au, 0, cu, fun j => if j < 64 then ((S.n + j : Nat) : Int) else 0, fun j => if j < 64 then 2 ^ j else 0⟩ wr.heap.size wr) := hT
      have hbm : Hid ((S.bitsN W0 0).m ≤ 100000) := Nat.le_trans (hmm.out 0 (by omega)) (by decide)
      have eB : Hid (S.bits a 0 = (S.bitsN W0 0).row (bitSum S.n 0) (just 0) (just a)) := by show _ = _; unfold Mk.bits; rw [hW0.out]
      have cJ0 := mjustW 0 (by decide)
      have cJ1 := mjustW a (by omega)
      rw [show (((0 : Nat) : Int)) = 0 from rfl] at cJ0
      unfold Lst.val at cJ0 cJ1
      clear ms g1 g2 g3 hOI hOz hOT hOT2 hUz hne hI hT hc1 hc2 hmm hw hk
      go_upto_region 17 with (first | (go_at_call 33; (with_reducible refine (cJ0 _).mono ?_); rintro e w2 ⟨P0, rfl, o2, n2, e2, t2, b2⟩; have n2' : Hid (P0.n ≤ 1000) := (by show _ ≤ _; omega); clear n2) | (go_at_call 33; (with_reducible refine (cJ1 _).mono ?_); rintro e w3 ⟨P1, rfl, o3, n3, e3, t3, b3⟩; have n3' : Hid (P1.n ≤ 1000) := (by show _ ≤ _; omega); clear n3; have cR := mrowW s b (S.bitsN W0 0) hbm.out ⟨au, 0, cu, fun j => if j < 64 then ((S.n + j : Nat) : Int) else 0, fun j => if j < 64 then 2 ^ j else 0⟩ P0 P1 PO.out o2 o3 (show 0 ≤ 1000 by omega) n2'.out n3'.out (bitSum S.n 0) (just 0) (just a) eP.out e2 e3 w3 ((ms'.out.below b2).below b3) (TrmsAt.to (TrmsAt.to tP.out b2 (Nat.le_refl _)) b3 (Nat.le_refl _)) (TrmsAt.to t2 b3 (Nat.le_refl _)) t3; unfold Lst.val at cR) | (go_at_call 40; (with_reducible refine cR.mono ?_); rintro e w4 ⟨rfl, a4⟩))
      have hb23 : Below wr.heap.size wr w3 := below_via b3 b2 b2.size
      have oI3 : OwnI w3 o 0 (fun j => ((S.n + j : Nat) : Int)) := own_below oI.out hb23 fun k hk => (World.ownsRow.lt oI.out k hk).2
      have oI4 : Hid (OwnI w4 o 0 (fun j => ((S.n + j : Nat) : Int))) := by
        obtain ⟨s4, _, _, _, h4⟩ := a4
        exact own_keep0 oI3 h4 fun k hk => (oZ.out k hk).1
      have hend : Hid (After r w w4 b (S.bits a 0)) := by
        show After _ _ _ _ _
        rw [eB.out]
        exact After.then g1'.out g2'.out g3'.out (After.of_below hb23 a4)
      clear cR a4 oI3 hb23 b2 b3 t2 t3 e2 e3 o2 o3 n2' n3' cJ0 cJ1
      go_wp2
      go_ret
      exact ⟨_, rfl, oI4.out, fun k hk => (oZ.out k hk).2, hend.out⟩

  · go_enter Try.func35, Try.ntmps35
    go_wp2
    go_loopw [7, 8, 9, 10, 11] (fun so su sw sk si wr => ∃ (i wv kv : Nat) (o u : Value), o = so ∧ u = su ∧ sw = .int .u64 (wv : Nat) ∧ sk = .int .u64 (kv : Nat) ∧ si = .int .i64 i ∧ i ≤ N ∧ Hid (wv = W0 / 2 ^ i) ∧ Hid (kv = 2 ^ i) ∧ Hid (BitInv r b S w W0 i wr o u)) (fun _ _ _ _ si _ => N - (intOf si).toNat)
    case atStart => exact ⟨0, W0, 1, _, _, rfl, rfl, rfl, rfl, rfl, by omega, (by show W0 = W0 / 1; omega), rfl, hstart⟩
    case round =>
      clear hstart
      obtain ⟨i, wv, kv, o, u, rfl, rfl, rfl, rfl, rfl, hi, hw, hk, hI⟩ := hrel
      by_cases hlt : i < N
      · have hlt' : (i : Int) < (N : Int) := by omega
        obtain ⟨s, ms, g1, g2, g3, hOI, hOz, hOT, hUz, hne⟩ := hI.out
        have ms' : Hid (Mdl s wr b (S.bitsN W0 i)) := ms
        have g1' : Hid (∀ k, s k ≠ 0 → r k ≠ 0 ∨ w.heap.size ≤ k) := g1
        have g2' : Hid (∀ k, r k ≠ 0 → s k = r k) := g2
        have g3' : Hid (KeepO (fun k => r k ≠ 0) w wr) := g3
        have hnT := Mk.bitsN_n S W0 i
        have gT : Hid (S.bitsN W0 i).Good := Mk.Good.bitsN hG'.out W0 i
        obtain ⟨X, hX⟩ : ∃ X, Hid (wv % 2 = X) := ⟨_, rfl⟩
        have hXb : Hid (bitAt W0 i = X) := by show _ = _; rw [← hX.out, hw.out]; rfl
        have hX2 : X < 2 := by rw [← hX.out]; omega
        have r1 : (wv : Int) % 2 = ((X : Nat) : Int) := by have := hX.out; omega
        have r2 : (wv : Int).tmod 2 = ((X : Nat) : Int) := by rw [Int.tmod_eq_emod_of_nonneg (by omega)]; exact r1
        have estep : Hid (S.bitsN W0 (i + 1) = (((S.bitsN W0 i).fresh (Ob.toG X)).row (just (S.n + i)) (less (S.n + i) 0) (lstOf []))) := by show _ = _; rw [← hXb.out]; rfl
        have cF := mfreshW s b (S.bitsN W0 i) (by omega) X (by omega) wr ms
        rw [hnT] at cF
        have hmT : Hid ((S.bitsN W0 i).m ≤ 90058) := hmm.out i (by omega)
        obtain ⟨B, hBB⟩ : ∃ B, Hid (S.n + i = B) := ⟨_, rfl⟩
        have hB1 : B < 100000 := by have := hBB.out; omega
        have hnT' : Hid ((S.bitsN W0 i).n = B) := hnT.trans hBB.out
        rw [hBB.out] at cF estep
        have hw2 : Hid (wv / 2 = W0 / 2 ^ (i + 1)) := by show _ = _; rw [hw.out, Nat.div_div_eq_div_mul, Nat.pow_succ]
        have hk2 : Hid (2 * kv = 2 ^ (i + 1)) := by show _ = _; rw [hk.out, Nat.pow_succ]; omega
        have hkb : kv < 9223372036854775808 := by
          rw [hk.out]
          exact Nat.lt_of_le_of_lt (Nat.pow_le_pow_right (by decide) (show i ≤ 58 by omega)) (by decide)
        have hkw : IntKind.u64.wrap (2 * (kv : Int)) = ((2 * kv : Nat) : Int) := by rw [IntKind.wrap_u64]; omega
        have oI : Hid (OwnI wr o i (fun j => ((S.n + j : Nat) : Int))) := hOI
        have oZ : Hid (∀ k, o.ownBlock = some k → s k = 0 ∧ w.heap.size ≤ k) := hOz
        have oT : Hid (OwnT wr 0 u i (fun j => ((S.n + j : Nat) : Int)) (fun j => 2 ^ j)) := hOT
        have uZ : Hid (∀ k, u.ownBlock = some k → s k = 0 ∧ w.heap.size ≤ k) := hUz
        have hne' : Hid (∀ k, o.ownBlock = some k → u.ownBlock ≠ some k) := hne
        have zB : Hid ((fun j => ((S.n + j : Nat) : Int)) i = (B : Nat)) := by show ((S.n + i : Nat) : Int) = _; rw [hBB.out]
        generalize hTg : S.bitsN W0 i = T at *
        clear ms g1 g2 g3 hOI hOz hOT hUz hne hI hnT hTg hBB hmm
        go_upto_region 11 with (go_at_call 29; (with_reducible refine cF.mono ?_); rintro e w1 ⟨rfl, a1⟩)
        obtain ⟨s1, m1, h1, h2, h3⟩ := a1.get
        have m1' : Hid (Mdl s1 w1 b (T.fresh (Ob.toG X))) := m1
        have oI1 : Hid (OwnI w1 o i (fun j => ((S.n + j : Nat) : Int))) := own_keep0 oI.out h3 fun k hk => (oZ.out k hk).1
        have oT1 : Hid (OwnT w1 0 u i (fun j => ((S.n + j : Nat) : Int)) (fun j => 2 ^ j)) := own_keep0 oT.out h3 fun k hk => (uZ.out k hk).1
        have oZ1 : Hid (∀ k, o.ownBlock = some k → s1 k = 0 ∧ w.heap.size ≤ k) := fun k hk => ⟨zero_on oI.out (fun k hk => (oZ.out k hk).1) h1 k hk, (oZ.out k hk).2⟩
        have uZ1 : Hid (∀ k, u.ownBlock = some k → s1 k = 0 ∧ w.heap.size ≤ k) := fun k hk => ⟨zero_on oT.out (fun k hk => (uZ.out k hk).1) h1 k hk, (uZ.out k hk).2⟩
        have zk := g3'.out.size
        have j1 : Hid (∀ k, s1 k ≠ 0 → r k ≠ 0 ∨ w.heap.size ≤ k) := fun k hk => by
          rcases h1 k hk with h | h
          · exact g1'.out k h
          · exact Or.inr (by omega)
        have j2 : Hid (∀ k, r k ≠ 0 → s1 k = r k) := fun k hk => by
          have e := g2'.out k hk
          exact (h2 k (by rw [e]; exact hk)).trans e
        have j3 : Hid (KeepO (fun k => r k ≠ 0) w w1) := g3'.out.trans h3 fun i hi h => by
          rcases g1'.out i h with h | h
          · exact h
          · omega
        clear a1 m1 h1 h2 h3 ms' g1' g2' g3' oI oZ oT uZ cF zk
        have cJ := mjustW B (by omega)
        have cL := mlessW B 0 (by omega) (by decide)
        rw [show (((0 : Nat) : Int)) = 0 from rfl] at cL
        unfold Lst.val at cJ cL
        go_upto_region 12 with (first | (go_at_call 33; (with_reducible refine (cJ _).mono ?_); rintro e w2 ⟨P0, rfl, o2, n2, e2, t2, b2⟩; have n2' : Hid (P0.n ≤ 1000) := (by show _ ≤ _; omega); clear n2) | (go_at_call 39; (with_reducible refine (cL _).mono ?_); rintro e w3 ⟨P1, rfl, o3, n3, e3, t3, b3⟩; have n3' : Hid (P1.n ≤ 1000) := (by show _ ≤ _; omega); clear n3; have cR := mrowW s1 b (T.fresh (Ob.toG X)) (show T.m ≤ 100000 from Nat.le_trans hmT.out (by decide)) P0 P1 ⟨none, 0, 0, fun _ => 0, fun _ => 0⟩ o2 o3 ⟨fun _ => (by show (-9223372036854775808 : Int) ≤ 0; decide), fun _ => (by show (0 : Int) < 9223372036854775808; decide), fun _ => (by show 0 < 18446744073709551616; decide), Nat.le_refl _, (by show 0 ≤ 9223372036854775807; decide)⟩ n2'.out n3'.out (by show 0 ≤ 1000; decide) (just B) (less B 0) (lstOf []) e2 e3 ⟨rfl, fun i hi => absurd hi (Nat.not_lt_zero _)⟩ w3 ((m1'.out.below b2).below b3) (TrmsAt.to t2 b3 (Nat.le_refl _)) t3 (Or.inl rfl); unfold Lst.val at cR) | (go_at_call 40; (with_reducible refine cR.mono ?_); rintro e w4 ⟨rfl, a4⟩))
        have a4' : Hid (After s1 w1 w4 b (S.bitsN W0 (i + 1))) := by
          show After _ _ _ _ _
          rw [estep.out]
          exact After.of_below b2 (After.of_below b3 a4)
        clear a4 cR cJ cL o2 e2 t2 b2 o3 e3 t3 b3 n2' n3' m1'
        obtain ⟨s2, m2, h1, h2, h3⟩ := a4'.out.get
        have m2' : Hid (Mdl s2 w4 b (S.bitsN W0 (i + 1))) := m2
        have oI2 : Hid (OwnI w4 o i (fun j => ((S.n + j : Nat) : Int))) := own_keep0 oI1.out h3 fun k hk => (oZ1.out k hk).1
        have oT2 : Hid (OwnT w4 0 u i (fun j => ((S.n + j : Nat) : Int)) (fun j => 2 ^ j)) := own_keep0 oT1.out h3 fun k hk => (uZ1.out k hk).1
        have oZ2 : Hid (∀ k, o.ownBlock = some k → s2 k = 0 ∧ w.heap.size ≤ k) := fun k hk => ⟨zero_on oI1.out (fun k hk => (oZ1.out k hk).1) h1 k hk, (oZ1.out k hk).2⟩
        have uZ2 : Hid (∀ k, u.ownBlock = some k → s2 k = 0 ∧ w.heap.size ≤ k) := fun k hk => ⟨zero_on oT1.out (fun k hk => (uZ1.out k hk).1) h1 k hk, (uZ1.out k hk).2⟩
        have zk := j3.out.size
        have p1 : Hid (∀ k, s2 k ≠ 0 → r k ≠ 0 ∨ w.heap.size ≤ k) := fun k hk => by
          rcases h1 k hk with h | h
          · exact j1.out k h
          · exact Or.inr (by omega)
        have p2 : Hid (∀ k, r k ≠ 0 → s2 k = r k) := fun k hk => by
          have e := j2.out k hk
          exact (h2 k (by rw [e]; exact hk)).trans e
        have p3 : Hid (KeepO (fun k => r k ≠ 0) w w4) := j3.out.trans h3 fun i hi h => by
          rcases j1.out i h with h | h
          · exact h
          · omega
        clear a4' m2 h1 h2 h3 oI1 oT1 oZ1 uZ1 j1 j2 j3 zk
        have bA : Below w4.heap.size w4 (w4.alloc (.cells #[.int .i64 (B : Nat)] 3)) := (Below.refl _ _).alloc (Nat.le_refl _) _
        have mA : Hid (Mdl s2 (w4.alloc (.cells #[.int .i64 (B : Nat)] 3)) b (S.bitsN W0 (i + 1))) := m2'.out.below bA
        have oIA : Hid (OwnI (w4.alloc (.cells #[.int .i64 (B : Nat)] 3)) o i (fun j => ((S.n + j : Nat) : Int))) := own_below oI2.out bA fun k hk => (World.ownsRow.lt oI2.out k hk).2
        have oTA : Hid (OwnT (w4.alloc (.cells #[.int .i64 (B : Nat)] 3)) 0 u i (fun j => ((S.n + j : Nat) : Int)) (fun j => 2 ^ j)) := own_below oT2.out bA fun k hk => (World.ownsRow.lt oT2.out k hk).2
        have uLt : Hid (∀ k, u.ownBlock = some k → k < w4.heap.size) := fun k hk => (World.ownsRow.lt oT2.out k hk).2
        have cA : Hid ((w4.alloc (.cells #[.int .i64 (B : Nat)] 3)).cell? ⟨w4.heap.size, 0, none⟩ = some (.int .i64 ((B : Nat) : Int))) := by show _ = _; simp [go_sem]
        have pA : Hid (KeepO (fun k => r k ≠ 0) w (w4.alloc (.cells #[.int .i64 (B : Nat)] 3))) := p3.out.trans (O' := fun _ => False) (KeepO.of_below bA) fun _ _ h => h.elim
        have zA : Hid ((w4.alloc (.cells #[.int .i64 (B : Nat)] 3)).heap.size = w4.heap.size + 1) := by show _ = _; simp
        have zk := p3.out.size
        clear bA oI2 oT2 m2' p3
        go_upto_region 13 with (at_builtin; refine wpList_appIF rfl _ _ rfl o i (fun j => ((S.n + j : Nat) : Int)) rfl oIA.out w4.heap.size (B : Nat) rfl cA.out zB.out (by omega) ?_; intro g cap w5 q1 q2 q3)
        obtain ⟨mB, kB⟩ := mA.out.beside (fun k hk => (oZ2.out k hk).1) q2
        have m3' : Hid (Mdl s2 w5 b (S.bitsN W0 (i + 1))) := mB
        have oI3 : Hid (OwnI w5 (.slice (some ⟨g, 0, none⟩) (i + 1) cap) (i + 1) (fun j => ((S.n + j : Nat) : Int))) := q1
        have gZ : w.heap.size ≤ g := by
          rcases q3 with q3 | q3
          · exact (oZ2.out g q3).2
          · have := zA.out; omega
        have oZ3 : Hid (∀ k, (Value.slice (some ⟨g, 0, none⟩) (i + 1) cap).ownBlock = some k → s2 k = 0 ∧ w.heap.size ≤ k) := fun k hk => ⟨new_zero mA.out (fun k hk => (oZ2.out k hk).1) q3 k hk, by
          have e : g = k := by simpa [Value.ownBlock] using hk
          omega⟩
        have oT3 : Hid (OwnT w5 0 u i (fun j => ((S.n + j : Nat) : Int)) (fun j => 2 ^ j)) := own_keep oTA.out kB fun k hk hk2 => hne'.out k hk2 hk
        have hne3 : Hid (∀ k, (Value.slice (some ⟨g, 0, none⟩) (i + 1) cap).ownBlock = some k → u.ownBlock ≠ some k) := fun k hk hu => by
          have e : g = k := by simpa [Value.ownBlock] using hk
          subst e
          rcases q3 with q3 | q3
          · exact hne'.out g q3 hu
          · have := uLt.out g hu; have := zA.out; omega
        have p4 : Hid (KeepO (fun k => r k ≠ 0) w w5) := pA.out.trans kB fun i hi h => by have := (oZ2.out i h).2; omega
        have gLt : g < w5.heap.size := (World.ownsRow.lt q1 g rfl).2
        clear mA oIA oTA uLt cA pA zA mB kB q1 q2 q3 oZ2 hne'
        have bC : Below w5.heap.size w5 (w5.alloc (.cells #[.int .i64 (B : Nat), .int .u64 (kv : Nat)] 61)) := (Below.refl _ _).alloc (Nat.le_refl _) _
        have mC : Hid (Mdl s2 (w5.alloc (.cells #[.int .i64 (B : Nat), .int .u64 (kv : Nat)] 61)) b (S.bitsN W0 (i + 1))) := m3'.out.below bC
        have oIC : Hid (OwnI (w5.alloc (.cells #[.int .i64 (B : Nat), .int .u64 (kv : Nat)] 61)) (.slice (some ⟨g, 0, none⟩) (i + 1) cap) (i + 1) (fun j => ((S.n + j : Nat) : Int))) := own_below oI3.out bC fun k hk => (World.ownsRow.lt oI3.out k hk).2
        have oTC : Hid (OwnT (w5.alloc (.cells #[.int .i64 (B : Nat), .int .u64 (kv : Nat)] 61)) 0 u i (fun j => ((S.n + j : Nat) : Int)) (fun j => 2 ^ j)) := own_below oT3.out bC fun k hk => (World.ownsRow.lt oT3.out k hk).2
        have cC : Hid ((w5.alloc (.cells #[.int .i64 (B : Nat), .int .u64 (kv : Nat)] 61)).cell? ⟨w5.heap.size, 0, none⟩ = some (.int .i64 ((B : Nat) : Int))) := by show _ = _; simp [go_sem]
        have cD : Hid ((w5.alloc (.cells #[.int .i64 (B : Nat), .int .u64 (kv : Nat)] 61)).cell? ⟨w5.heap.size, 1, none⟩ = some (.int .u64 (kv : Nat))) := by show _ = _; simp [go_sem]
        have pC : Hid (KeepO (fun k => r k ≠ 0) w (w5.alloc (.cells #[.int .i64 (B : Nat), .int .u64 (kv : Nat)] 61))) := p4.out.trans (O' := fun _ => False) (KeepO.of_below bC) fun _ _ h => h.elim
        have zC : Hid ((w5.alloc (.cells #[.int .i64 (B : Nat), .int .u64 (kv : Nat)] 61)).heap.size = w5.heap.size + 1) := by show _ = _; simp
        have zw5 := p4.out.size
        have kz : Hid ((fun j => 2 ^ j) i = kv) := hk.out.symm
        clear bC oI3 oT3 m3' p4 hk
        go_upto_region 14 with (at_builtin; refine wpList_appTF rfl _ _ rfl u i (fun j => ((S.n + j : Nat) : Int)) (fun j => 2 ^ j) rfl oTC.out w5.heap.size (B : Nat) kv rfl cC.out cD.out zB.out kz.out (by omega) ?_; intro g2 cap2 w6 q1 q2 q3)
        obtain ⟨mD, kD⟩ := mC.out.beside (fun k hk => (uZ2.out k hk).1) q2
        have m6' : Hid (Mdl s2 w6 b (S.bitsN W0 (i + 1))) := mD
        have oT6 : Hid (OwnT w6 0 (.slice (some ⟨g2, 0, none⟩) (i + 1) cap2) (i + 1) (fun j => ((S.n + j : Nat) : Int)) (fun j => 2 ^ j)) := q1
        have g2Z : w.heap.size ≤ g2 := by
          rcases q3 with q3 | q3
          · exact (uZ2.out g2 q3).2
          · have := zC.out; omega
        have uZ6 : Hid (∀ k, (Value.slice (some ⟨g2, 0, none⟩) (i + 1) cap2).ownBlock = some k → s2 k = 0 ∧ w.heap.size ≤ k) := fun k hk => ⟨new_zero mC.out (fun k hk => (uZ2.out k hk).1) q3 k hk, by
          have e : g2 = k := by simpa [Value.ownBlock] using hk
          omega⟩
        have oI6 : Hid (OwnI w6 (.slice (some ⟨g, 0, none⟩) (i + 1) cap) (i + 1) (fun j => ((S.n + j : Nat) : Int))) := own_keep oIC.out kD fun k hk hk2 => hne3.out k hk hk2
        have hne6 : Hid (∀ k, (Value.slice (some ⟨g, 0, none⟩) (i + 1) cap).ownBlock = some k → (Value.slice (some ⟨g2, 0, none⟩) (i + 1) cap2).ownBlock ≠ some k) := fun k hk hu => by
          have e : g = k := by simpa [Value.ownBlock] using hk
          have e2 : g2 = k := by simpa [Value.ownBlock] using hu
          subst e
          subst e2
          rcases q3 with q3 | q3
          · exact hne3.out g2 hk q3
          · have := zC.out; omega
        have p6 : Hid (KeepO (fun k => r k ≠ 0) w w6) := pC.out.trans kD fun i hi h => by have := (uZ2.out i h).2; omega
        have hI6 : Hid (BitInv r b S w W0 (i + 1) w6 (.slice (some ⟨g, 0, none⟩) (i + 1) cap) (.slice (some ⟨g2, 0, none⟩) (i + 1) cap2)) := ⟨s2, m6'.out, p1.out, p2.out, p6.out, oI6.out, oZ3.out, oT6.out, uZ6.out, hne6.out⟩
        obtain ⟨V2, hV2⟩ : ∃ V2, Hid (wv / 2 = V2) := ⟨_, rfl⟩
        obtain ⟨K2, hK2⟩ : ∃ K2, Hid (2 * kv = K2) := ⟨_, rfl⟩
        rw [hV2.out] at hw2
        rw [hK2.out] at hk2 hkw
        have d2 : (wv : Int) / 2 = ((V2 : Nat) : Int) := by have := hV2.out; omega
        have d3 : (wv : Int).tdiv 2 = ((V2 : Nat) : Int) := by rw [Int.tdiv_eq_ediv_of_nonneg (by omega)]; exact d2
        have hwle : wv ≤ W0 := by rw [hw.out]; exact Nat.div_le_self _ _
        have hV2lt : V2 < 18446744073709551616 := by have := hV2.out; omega
        have d4 : IntKind.u64.wrap ((V2 : Nat) : Int) = ((V2 : Nat) : Int) := wrapNat V2 hV2lt
        clear mC oIC oTC cC cD pC zC kz mD kD q1 q2 q3 uZ2 hne3 oZ3 m6' oT6 uZ6 oI6 hne6 p6 p1 p2 zB
        go_wp2
        go_roundw
        case rel => exact ⟨i + 1, V2, K2, _, _, rfl, rfl, by first | rfl | trivial | go_num, by first | rfl | trivial | go_num, by go_num, by omega, hw2, hk2, hI6⟩
        case measure => first | (simp [intOf]; done) | (simp [intOf]; omega)
      · obtain rfl : i = N := by omega
        have hlt' : ¬ (i : Int) < (i : Int) := by omega
        obtain ⟨s, ms, g1, g2, g3, hOI, hOz, hOT, hUz, hne⟩ := hI.out
        have ms' : Hid (Mdl s wr b (S.bitsN W0 i)) := ms
        have g1' : Hid (∀ k, s k ≠ 0 → r k ≠ 0 ∨ w.heap.size ≤ k) := g1
        have g2' : Hid (∀ k, r k ≠ 0 → s k = r k) := g2
        have g3' : Hid (KeepO (fun k => r k ≠ 0) w wr) := g3
        have oI : Hid (OwnI wr o i (fun j => ((S.n + j : Nat) : Int))) := hOI
        have oZ : Hid (∀ k, o.ownBlock = some k → s k = 0 ∧ w.heap.size ≤ k) := hOz
        have hOT2 := OwnT.congr (V' := fun j => if j < 64 then ((S.n + j : Nat) : Int) else 0) (K' := fun j => if j < 64 then 2 ^ j else 0) hOT fun j hj => ⟨(if_pos (by omega)).symm, (if_pos (by omega)).symm⟩
        obtain ⟨au, cu, rfl, hc1, hc2, hT⟩ := hOT2.trms
        have PO : Hid (Lst.Ok ⟨au, i, cu, fun j => if j < 64 then ((S.n + j : Nat) : Int) else 0, fun j => if j < 64 then 2 ^ j else 0⟩) := by
          refine ⟨fun j => ?_, fun j => ?_, fun j => ?_, hc1, (by unfold maxLen at hc2; show cu ≤ 9223372036854775807; omega)⟩
          · show _ ≤ (if j < 64 then ((S.n + j : Nat) : Int) else 0); split <;> omega
          · show (if j < 64 then ((S.n + j : Nat) : Int) else 0) < _; split <;> omega
          · show (if j < 64 then 2 ^ j else 0) < _
            split
            · exact Nat.pow_lt_pow_right (show 1 < 2 by decide) (show j < 64 by assumption)
            · decide
        have eP : Hid (LEq ⟨au, i, cu, fun j => if j < 64 then ((S.n + j : Nat) : Int) else 0, fun j => if j < 64 then 2 ^ j else 0⟩ (bitSum S.n i)) := ⟨rfl, fun j hj => by
          have hj' : j < i := hj
          exact ⟨if_pos (by omega), if_pos (by omega)⟩⟩
        have tP : Hid (Lst.At ⟨au, i, cu, fun j => if j < 64 then ((S.n + j : Nat) : Int) else 0, fun j => if j < 64 then 2 ^ j else 0⟩ wr.heap.size wr) := hT
        have hbm : Hid ((S.bitsN W0 i).m ≤ 100000) := Nat.le_trans (hmm.out i (by omega)) (by decide)
        have eB : Hid (S.bits a i = (S.bitsN W0 i).row (bitSum S.n i) (just 0) (just a)) := by show _ = _; unfold Mk.bits; rw [hW0.out]
        have cJ0 := mjustW 0 (by decide)
        have cJ1 := mjustW a (by omega)
        rw [show (((0 : Nat) : Int)) = 0 from rfl] at cJ0
        unfold Lst.val at cJ0 cJ1
        clear ms g1 g2 g3 hOI hOz hOT hOT2 hUz hne hI hT hc1 hc2 hmm hw hk
        go_upto_region 17 with (first | (go_at_call 33; (with_reducible refine (cJ0 _).mono ?_); rintro e w2 ⟨P0, rfl, o2, n2, e2, t2, b2⟩; have n2' : Hid (P0.n ≤ 1000) := (by show _ ≤ _; omega); clear n2) | (go_at_call 33; (with_reducible refine (cJ1 _).mono ?_); rintro e w3 ⟨P1, rfl, o3, n3, e3, t3, b3⟩; have n3' : Hid (P1.n ≤ 1000) := (by show _ ≤ _; omega); clear n3; have cR := mrowW s b (S.bitsN W0 i) hbm.out ⟨au, i, cu, fun j => if j < 64 then ((S.n + j : Nat) : Int) else 0, fun j => if j < 64 then 2 ^ j else 0⟩ P0 P1 PO.out o2 o3 (show i ≤ 1000 by omega) n2'.out n3'.out (bitSum S.n i) (just 0) (just a) eP.out e2 e3 w3 ((ms'.out.below b2).below b3) (TrmsAt.to (TrmsAt.to tP.out b2 (Nat.le_refl _)) b3 (Nat.le_refl _)) (TrmsAt.to t2 b3 (Nat.le_refl _)) t3; unfold Lst.val at cR) | (go_at_call 40; (with_reducible refine cR.mono ?_); rintro e w4 ⟨rfl, a4⟩))
        have hb23 : Below wr.heap.size wr w3 := below_via b3 b2 b2.size
        have oI3 : OwnI w3 o i (fun j => ((S.n + j : Nat) : Int)) := own_below oI.out hb23 fun k hk => (World.ownsRow.lt oI.out k hk).2
        have oI4 : Hid (OwnI w4 o i (fun j => ((S.n + j : Nat) : Int))) := by
          obtain ⟨s4, _, _, _, h4⟩ := a4
          exact own_keep0 oI3 h4 fun k hk => (oZ.out k hk).1
        have hend : Hid (After r w w4 b (S.bits a i)) := by
          show After _ _ _ _ _
          rw [eB.out]
          exact After.then g1'.out g2'.out g3'.out (After.of_below hb23 a4)
        clear cR a4 oI3 hb23 b2 b3 t2 t3 e2 e3 o2 o3 n2' n3' cJ0 cJ1
        go_wp2
        go_ret
        exact ⟨_, rfl, oI4.out, fun k hk => (oZ.out k hk).2, hend.out⟩
end Go.Proofs.Ytdbolfmmlmoiaaa

namespace Go.Proofs.Ytdbolfmmlmoiaaa
open Go.RowKit Go.Proofs
set_option linter.unusedVariables false
set_option linter.unusedSimpArgs false
attribute [local go_sem ↓] Go.wp_at_zero Go.wp_at_succ
/-- A deed: its list of terms, its list of variables (where it lies, how long it is, its room, its integers). -/
structure Dd where
  what : Int
  a : Int
  b : Int
  n : Int
  k : Nat
  L : Lst
  ad : Option Addr
  m : Nat
  c : Nat
  V : Nat → Int
def Dd.val (d : Dd) : Value := .agg #[.int .i64 d.what, .int .i64 d.a, .int .i64 d.b, .int .i64 d.n, .int .u64 (d.k : Nat), d.L.val, .slice d.ad d.m d.c]
/-- Is it short? -/
def Dd.small (d : Dd) : Bool := decide (d.L.n ≤ 20 ∧ d.m ≤ 5)
/-- Which of n things a raw number speaks of. -/
def pickN (c : Int) (n : Nat) : Nat := (if c < 0 then -(c + 1) else c).toNat % n
theorem pickN_lt (c : Int) {n : Nat} (h : 0 < n) : pickN c n < n := Nat.mod_lt _ h
theorem mpickW (c : Int) (hc1 : -9223372036854775808 ≤ c) (hc2 : c < 9223372036854775808) (w : World) :
    Calls Try.prog 18 #[.int .i64 c, .int .i64 9] w fun e w' => e = .returned (.int .i64 (pickN c 9 : Nat)) ∧ w = w' := by
  have key : ∀ c' : Int, 0 ≤ c' → c'.tmod 9 = ((c'.toNat % 9 : Nat) : Int) := fun c' h => by
    rw [Int.tmod_eq_emod_of_nonneg h]; omega
  have key2 : ∀ c' : Int, 0 ≤ c' → c' % 9 = ((c'.toNat % 9 : Nat) : Int) := fun c' h => by omega
  by_cases h : c < 0
  · have e1 : IntKind.i64.wrap (c + 1) = c + 1 := by rw [IntKind.wrap_i64]; omega
    have e2 : IntKind.i64.wrap (-(c + 1)) = -(c + 1) := by rw [IntKind.wrap_i64]; omega
    have e3 := key (-(c + 1)) (by omega)
    have e4 := key2 (-(c + 1)) (by omega)
    have e5 : pickN c 9 = (-(c + 1)).toNat % 9 := by unfold pickN; rw [if_pos h]
    rw [e5]
    obtain ⟨p, hp⟩ : ∃ p, Hid ((-(c + 1)).toNat % 9 = p) := ⟨_, rfl⟩
    rw [hp.out] at e3 e4 ⊢
    have e6 : -((c + 1).tmod 9) = (p : Int) := by rw [← e3, Int.neg_tmod]
    clear key key2 e3 e4
    go_enter Try.func18, Try.ntmps18
    go_wp2
    go_ret
    exact ⟨by first | rfl | rw [e6] | simp [e6], rfl⟩
  · have e3 := key c (by omega)
    have e4 := key2 c (by omega)
    have e5 : pickN c 9 = c.toNat % 9 := by unfold pickN; rw [if_neg h]
    rw [e5]
    obtain ⟨p, hp⟩ : ∃ p, Hid (c.toNat % 9 = p) := ⟨_, rfl⟩
    rw [hp.out] at e3 e4 ⊢
    go_enter Try.func18, Try.ntmps18
    go_wp2
    go_ret
    exact ⟨rfl, rfl⟩
theorem msmallW (d : Dd) (w : World) : Calls Try.prog 11 #[d.val] w fun e w' => e = .returned (.bool d.small) ∧ Below w.heap.size w w' := by
  unfold Dd.val Dd.small Lst.val
  by_cases h1 : d.L.n ≤ 20
  · have h1' : (d.L.n : Int) ≤ 20 := by omega
    by_cases h2 : d.m ≤ 5
    · have h2' : (d.m : Int) ≤ 5 := by omega
      rw [decide_eq_true ⟨h1, h2⟩]
      clear h1 h2
      go_enter Try.func11, Try.ntmps11
      go_wp2
      go_ret
      exact ⟨rfl, by (repeat' (first | (with_reducible first | exact Below.refl _ _ | assumption | refine Below.alloc ?_ ?_ _ | refine Below.drew ?_ | refine below_drewN ?_ _ | refine Below.setCell ?_ ?_ _ | refine below_via (by with_reducible assumption) ?_ ?_) | omega | (simp only [szs]; omega) | (simp only [szs] at *; omega)))⟩
    · have h2' : ¬ (d.m : Int) ≤ 5 := by omega
      rw [decide_eq_false fun h => h2 h.2]
      clear h1 h2
      go_enter Try.func11, Try.ntmps11
      go_wp2
      go_ret
      exact ⟨rfl, by (repeat' (first | (with_reducible first | exact Below.refl _ _ | assumption | refine Below.alloc ?_ ?_ _ | refine Below.drew ?_ | refine below_drewN ?_ _ | refine Below.setCell ?_ ?_ _ | refine below_via (by with_reducible assumption) ?_ ?_) | omega | (simp only [szs]; omega) | (simp only [szs] at *; omega)))⟩
  · have h1' : ¬ (d.L.n : Int) ≤ 20 := by omega
    rw [decide_eq_false fun h => h1 h.1]
    clear h1
    go_enter Try.func11, Try.ntmps11
    go_wp2
    go_ret
    exact ⟨rfl, by (repeat' (first | (with_reducible first | exact Below.refl _ _ | assumption | refine Below.alloc ?_ ?_ _ | refine Below.drew ?_ | refine below_drewN ?_ _ | refine Below.setCell ?_ ?_ _ | refine below_via (by with_reducible assumption) ?_ ?_) | omega | (simp only [szs]; omega) | (simp only [szs] at *; omega)))⟩
end Go.Proofs.Ytdbolfmmlmoiaaa

namespace Go.Proofs.Ytdbolfmmlmoiaaa
open Go.RowKit Go.Proofs
set_option linter.unusedVariables false
set_option linter.unusedSimpArgs false
/-- The hash of a list whose variables count as those that there are when their turn comes. -/
def Mk.manyV (S : Mk) (m : Nat) (V : Nat → Int) : Nat → Mk
  | 0 => S.linear (lstOf [(0, m)])
  | i + 1 => (S.manyV m V i).two (S.n + 7 * i) ((S.manyV m V i).is (V i))
theorem Mk.manyV_n (S : Mk) (m : Nat) (V : Nat → Int) : ∀ i, (S.manyV m V i).n = S.n + 1 + 7 * i
  | 0 => rfl
  | i + 1 => by show ((S.manyV m V i).two _ _).n = _; rw [Mk.two_n, Mk.manyV_n S m V i]; omega
theorem Mk.Good.manyV {S : Mk} (h : S.Good) (m : Nat) (V : Nat → Int) : ∀ i, (S.manyV m V i).Good
  | 0 => h.linear (num_in h.n1)
  | i + 1 => by
    have hn := Mk.manyV_n S m V i
    have g := Mk.Good.manyV h m V i
    exact g.two (by omega) (Mk.is_lt g _)
theorem Mk.hold_manyV {S : Mk} (h : S.Good) (m : Nat) (V : Nat → Int) : ∀ i, (S.manyV m V i).Hold ↔ S.Hold
  | 0 => Mk.hold_linear h (num_in h.n1)
  | i + 1 => by
    have hn := Mk.manyV_n S m V i
    have g := Mk.Good.manyV h m V i
    exact (Mk.hold_two g (by omega) (Mk.is_lt g _)).trans (Mk.hold_manyV h m V i)
/-- Variables that there are from the beginning on. -/
theorem Mk.manyV_eq {S : Mk} (m : Nat) {l : Nat → Nat} : ∀ {i : Nat}, (∀ j, j < i → l j < S.n) → S.manyV m (fun j => ((l j : Nat) : Int)) i = S.manyN m l i
  | 0, _ => rfl
  | i + 1, hl => by
    have ih := Mk.manyV_eq (S := S) m (l := l) (i := i) fun j hj => hl j (by omega)
    have hn := Mk.manyN_n S m l i
    have hi := hl i (by omega)
    show (S.manyV m (fun j => ((l j : Nat) : Int)) i).two _ ((S.manyV m (fun j => ((l j : Nat) : Int)) i).is ((l i : Nat) : Int)) = (S.manyN m l i).two _ (l i)
    rw [ih]
    have e : (S.manyN m l i).is ((l i : Nat) : Int) = l i := by
      unfold Mk.is
      rw [if_pos (by omega), Int.toNat_natCast]
    rw [e]
/-- A public variable. -/
def Mk.public (S : Mk) (x : Fin Ob.RE) : Mk := { S.fresh x with pub := S.pub + 1 }
theorem Mk.Good.public {S : Mk} (h : S.Good) (x : Fin Ob.RE) : (S.public x).Good := by
  have g := h.fresh x
  exact ⟨g.n1, g.v0, g.lt, g.rows, by show S.pub + 1 + 1 ≤ S.n + 1; have := h.pubs; omega⟩
theorem Mk.hold_public {S : Mk} (h : S.Good) (x : Fin Ob.RE) : (S.public x).Hold ↔ S.Hold := Mk.hold_fresh h x
/-- What a deed makes. -/
def Mk.deed (S : Mk) (d : Dd) : Mk :=
  match pickN d.what 9 with
  | 0 => if S.pub + 1 < S.n then S else S.public (Ob.toG d.k)
  | 1 => S.fresh (Ob.toG d.k)
  | 2 => S.linear (S.isL d.L)
  | 3 => S.mulL (just (S.is d.a)) (just (S.is d.b))
  | 4 => S.bits (S.is d.a) (bitsOf d.n)
  | 5 => S.choose (S.is d.n) (S.is d.a) (S.is d.b)
  | 6 => S.same (S.is d.a) (S.is d.b)
  | 7 => S.two (S.is d.a) (S.is d.b)
  | _ => S.manyV d.m d.V d.m
theorem Mk.Good.deed {S : Mk} (h : S.Good) (d : Dd) : (S.deed d).Good := by
  unfold Mk.deed
  split
  · split
    · exact h
    · exact h.public _
  · exact h.fresh _
  · exact h.linear (Mk.isL_in h d.L)
  · exact h.mulL (just_in (Mk.is_lt h _)) (just_in (Mk.is_lt h _))
  · exact h.bits (Mk.is_lt h _) _
  · exact h.choose (Mk.is_lt h _) (Mk.is_lt h _) (Mk.is_lt h _)
  · exact h.same (Mk.is_lt h _) (Mk.is_lt h _)
  · exact h.two (Mk.is_lt h _) (Mk.is_lt h _)
  · exact h.manyV _ _ _
/-- What a deed asks for. -/
def Mk.asks (S : Mk) (d : Dd) : Prop := (pickN d.what 9 = 6 → S.v (S.is d.a) = S.v (S.is d.b)) ∧ (pickN d.what 9 = 4 → S.v (S.is d.a) / 2 ^ bitsOf d.n = 0)
/-- What was made holds just if all that was asked is so. -/
theorem Mk.hold_deed {S : Mk} (h : S.Good) (d : Dd) : (S.deed d).Hold ↔ (S.Hold ∧ S.asks d) := by
  unfold Mk.deed Mk.asks
  split
  · rename_i e
    rw [e]
    split
    · exact ⟨fun k => ⟨k, fun h => by omega, fun h => by omega⟩, fun k => k.1⟩
    · rw [Mk.hold_public h]; exact ⟨fun k => ⟨k, fun h => by omega, fun h => by omega⟩, fun k => k.1⟩
  · rename_i e; rw [e, Mk.hold_fresh h]; exact ⟨fun k => ⟨k, fun h => by omega, fun h => by omega⟩, fun k => k.1⟩
  · rename_i e; rw [e, Mk.hold_linear h (Mk.isL_in h d.L)]; exact ⟨fun k => ⟨k, fun h => by omega, fun h => by omega⟩, fun k => k.1⟩
  · rename_i e; rw [e, Mk.hold_mulL h (just_in (Mk.is_lt h _)) (just_in (Mk.is_lt h _))]; exact ⟨fun k => ⟨k, fun h => by omega, fun h => by omega⟩, fun k => k.1⟩
  · rename_i e; rw [e, Mk.hold_bits h (Mk.is_lt h _)]; exact ⟨fun k => ⟨k.1, fun h => by omega, fun _ => k.2⟩, fun k => ⟨k.1, k.2.2 rfl⟩⟩
  · rename_i e; rw [e, Mk.hold_choose h (Mk.is_lt h _) (Mk.is_lt h _) (Mk.is_lt h _)]; exact ⟨fun k => ⟨k, fun h => by omega, fun h => by omega⟩, fun k => k.1⟩
  · rename_i e; rw [e, Mk.hold_same h (Mk.is_lt h _) (Mk.is_lt h _)]; exact ⟨fun k => ⟨k.1, fun _ => k.2, fun h => by omega⟩, fun k => ⟨k.1, k.2.1 rfl⟩⟩
  · rename_i e; rw [e, Mk.hold_two h (Mk.is_lt h _) (Mk.is_lt h _)]; exact ⟨fun k => ⟨k, fun h => by omega, fun h => by omega⟩, fun k => k.1⟩
  · rename_i e0 e1 e2 e3 e4 e5 e6 e7
    rw [Mk.hold_manyV h]
    exact ⟨fun k => ⟨k, fun h => absurd h (by omega), fun h => absurd h (by omega)⟩, fun k => k.1⟩
end Go.Proofs.Ytdbolfmmlmoiaaa

namespace Go.Proofs.Ytdbolfmmlmoiaaa
open Go.RowKit Go.Proofs
set_option linter.unusedVariables false
set_option linter.unusedSimpArgs false
/-- Two makers of one shape: values apart the same. -/
def Shp (S T : Mk) : Prop := S.pub = T.pub ∧ S.n = T.n ∧ S.m = T.m ∧ S.R = T.R
theorem Shp.refl (S : Mk) : Shp S S := ⟨rfl, rfl, rfl, rfl⟩
theorem Shp.fresh {S T : Mk} (h : Shp S T) (x y : Fin Ob.RE) : Shp (S.fresh x) (T.fresh y) := ⟨h.1, by show S.n + 1 = T.n + 1; rw [h.2.1], h.2.2.1, h.2.2.2⟩
theorem Shp.row {S T : Mk} (h : Shp S T) (a b c : Lst) : Shp (S.row a b c) (T.row a b c) :=
  ⟨h.1, h.2.1, by show S.m + 1 = T.m + 1; rw [h.2.2.1], by show (fun i => if i = S.m then row3 a b c else S.R i) = (fun i => if i = T.m then row3 a b c else T.R i); rw [h.2.2.1, h.2.2.2]⟩
theorem Shp.is {S T : Mk} (h : Shp S T) (v : Int) : S.is v = T.is v := by unfold Mk.is; rw [h.2.1]
theorem Shp.isL {S T : Mk} (h : Shp S T) (L : Lst) : S.isL L = T.isL L := by
  unfold Mk.isL
  have e : (fun i => ((S.is (L.V i) : Nat) : Int)) = fun i => ((T.is (L.V i) : Nat) : Int) := funext fun i => by rw [h.is]
  rw [e]
theorem Shp.linear {S T : Mk} (h : Shp S T) (L : Lst) : Shp (S.linear L) (T.linear L) := by
  have := (h.fresh (S.val L) (T.val L)).row L (just 0) (just S.n)
  rw [show T.linear L = (T.fresh (T.val L)).row L (just 0) (just T.n) from rfl, ← h.2.1]
  exact this
theorem Shp.mulL {S T : Mk} (h : Shp S T) (a b : Lst) : Shp (S.mulL a b) (T.mulL a b) := by
  have := (h.fresh (S.val a * S.val b) (T.val a * T.val b)).row a b (just S.n)
  rw [show T.mulL a b = (T.fresh (T.val a * T.val b)).row a b (just T.n) from rfl, ← h.2.1]
  exact this
theorem Shp.same {S T : Mk} (h : Shp S T) (a b : Nat) : Shp (S.same a b) (T.same a b) := h.row _ _ _
theorem Shp.choose {S T : Mk} (h : Shp S T) (t a b : Nat) : Shp (S.choose t a b) (T.choose t a b) := by
  have := (h.fresh (Ob.toG (S.v b) + Ob.toG (S.v t) * (Ob.toG (S.v a) - Ob.toG (S.v b))) (Ob.toG (T.v b) + Ob.toG (T.v t) * (Ob.toG (T.v a) - Ob.toG (T.v b)))).row (just t) (less a b) (less S.n b)
  rw [show T.choose t a b = (T.fresh (Ob.toG (T.v b) + Ob.toG (T.v t) * (Ob.toG (T.v a) - Ob.toG (T.v b)))).row (just t) (less a b) (less T.n b) from rfl, ← h.2.1]
  exact this
theorem Shp.bitsN {S T : Mk} (h : Shp S T) (x y : Nat) : ∀ i, Shp (S.bitsN x i) (T.bitsN y i)
  | 0 => h
  | i + 1 => by
    have := ((Shp.bitsN h x y i).fresh (Ob.toG (bitAt x i)) (Ob.toG (bitAt y i))).row (just (S.n + i)) (less (S.n + i) 0) (lstOf [])
    rw [show T.bitsN y (i + 1) = ((T.bitsN y i).fresh (Ob.toG (bitAt y i))).row (just (T.n + i)) (less (T.n + i) 0) (lstOf []) from rfl, ← h.2.1]
    exact this
theorem Shp.bits {S T : Mk} (h : Shp S T) (a n : Nat) : Shp (S.bits a n) (T.bits a n) := by
  have := (h.bitsN (S.v a) (T.v a) n).row (bitSum S.n n) (just 0) (just a)
  rw [show T.bits a n = (T.bitsN (T.v a) n).row (bitSum T.n n) (just 0) (just a) from rfl, ← h.2.1]
  exact this
theorem Shp.round {S T : Mk} (h : Shp S T) (x a i : Nat) : Shp (S.round x a i) (T.round x a i) := by
  have := (h.mulL (rndL x a i) (rndL x a i)).mulL (just S.n) (rndL x a i)
  rw [show T.round x a i = (T.mulL (rndL x a i) (rndL x a i)).mulL (just T.n) (rndL x a i) from rfl, ← h.2.1]
  exact this
theorem Shp.rounds {S T : Mk} (h : Shp S T) (a b : Nat) : ∀ i, Shp (S.rounds a b i) (T.rounds a b i)
  | 0 => h
  | i + 1 => by
    have := (Shp.rounds h a b i).round (if i = 0 then b else S.n + 2 * i - 1) a i
    rw [show T.rounds a b (i + 1) = (T.rounds a b i).round (if i = 0 then b else T.n + 2 * i - 1) a i from rfl, ← h.2.1]
    exact this
theorem Shp.two {S T : Mk} (h : Shp S T) (a b : Nat) : Shp (S.two a b) (T.two a b) := by
  have := (h.rounds a b 3).linear (endL (S.n + 5) a b)
  rw [show T.two a b = (T.rounds a b 3).linear (endL (T.n + 5) a b) from rfl, ← h.2.1]
  exact this
theorem Shp.manyV {S T : Mk} (h : Shp S T) (m : Nat) (V : Nat → Int) : ∀ i, Shp (S.manyV m V i) (T.manyV m V i)
  | 0 => h.linear _
  | i + 1 => by
    have ih := Shp.manyV h m V i
    have := ih.two (S.n + 7 * i) ((S.manyV m V i).is (V i))
    rw [show T.manyV m V (i + 1) = (T.manyV m V i).two (T.n + 7 * i) ((T.manyV m V i).is (V i)) from rfl, ← h.2.1, ← ih.is]
    exact this
/-- A deed with another number. -/
def Dd.by_ (d : Dd) (k : Nat) : Dd := { d with k := k }
theorem Shp.deed {S T : Mk} (h : Shp S T) (d : Dd) (k : Nat) : Shp (S.deed d) (T.deed (d.by_ k)) := by
  unfold Mk.deed Dd.by_
  dsimp only
  split
  · rw [← h.1, ← h.2.1]
    split
    · exact h
    · exact ⟨by show S.pub + 1 = T.pub + 1; rw [h.1], (by show S.n + 1 = T.n + 1; rw [h.2.1]), h.2.2.1, h.2.2.2⟩
  · exact h.fresh _ _
  · rw [← h.isL]; exact h.linear _
  · rw [← h.is, ← h.is]; exact h.mulL _ _
  · rw [← h.is]; exact h.bits _ _
  · rw [← h.is, ← h.is, ← h.is]; exact h.choose _ _ _
  · rw [← h.is, ← h.is]; exact h.same _ _
  · rw [← h.is, ← h.is]; exact h.two _ _
  · exact h.manyV _ _ _
end Go.Proofs.Ytdbolfmmlmoiaaa
