/-
  Joined texts: The walks of package gadget: one row more; a list's value. The walks of package gadget: new variables of products, of bits; package modular's calls. Slices that were made at full length, and are filled from the front. The walk of package gadget: a new variable of a list. The walks of package gadget: products of variables, what is the same, one of two. The walk of package gadget: the hash of two.
-/
import Derived.Test.YtdbolfmmlmoiaaaJ6
import Derived.Test.YtdbolfmmlmoiaaaJ7
import Derived.Test.YtdbolfmmlmoiaaaJ3
import Derived.Test.YtdbolfmmlmoiaaaJ5

namespace Go.Proofs.Ytdbolfmmlmoiaaa
open Go.RowKit Go.Proofs
set_option linter.unusedVariables false
set_option linter.unusedSimpArgs false
attribute [local go_sem ↓] Go.wp_at_zero Go.wp_at_succ
set_option maxRecDepth 4000 in
set_option maxHeartbeats 8000000 in
theorem krowW (r : Nat → Nat) (b : Nat) (S : Mk) (hm : S.m ≤ 100000) (A B C : Lst) (hA : A.Ok) (hB : B.Ok) (hC : C.Ok) (nA : A.n ≤ 1000) (nB : B.n ≤ 1000) (nC : C.n ≤ 1000) (a' b' c' : Lst) (eA : LEq A a') (eB : LEq B b') (eC : LEq C c') (w : World) (h : GMd r w b S) (tA : A.At w.heap.size w) (tB : B.At w.heap.size w) (tC : C.At w.heap.size w) :
    Calls Try.prog 57 #[.pointer (some ⟨b, 0, none⟩), A.val, B.val, C.val] w fun e w' => e = .returned (.tuple #[]) ∧ GAf r w w' b (S.row a' b' c') := by
  obtain ⟨vr, vv, R, t, hS, hO⟩ := h
  have c2 := t.c2
  have hblt := t.blt
  have cA := fun W h => rankSumC A hA (by omega) W (TrmsAt.to tA h (Nat.le_refl _))
  have cB := fun W h => rankSumC B hB (by omega) W (TrmsAt.to tB h (Nat.le_refl _))
  have cC := fun W h => rankSumC C hC (by omega) W (TrmsAt.to tC h (Nat.le_refl _))
  have t' : Hid (GadP r w b (S.pub : Nat) vr vv S.m R S.n S.v) := t
  have hkeep : Hid (∀ W, Below w.heap.size w W → W.cell? ⟨b, 2, none⟩ = some vr) := fun W hW => by rw [(bcell hW).1 b 2 hblt]; exact c2
  have hA' : Hid A.Ok := hA
  have hB' : Hid B.Ok := hB
  have hC' : Hid C.Ok := hC
  clear t tA tB tC hA hB hC
  unfold Lst.val at *
  go_enter Try.func57, Try.ntmps57
  refine wp_region_noPanic ?_
  refine region_lastly (S := (fun w' => w'.cell? ⟨b, 2, none⟩ = some vr)) [13, 16] (by kernel_rfl) (by ((try dsimp only); (exact hkeep.out _ (by (repeat' (first | (with_reducible first | exact Below.refl _ _ | assumption | refine Below.alloc ?_ ?_ _ | refine Below.drew ?_ | refine below_drewN ?_ _ | refine Below.setCell ?_ ?_ _ | refine below_via (by with_reducible assumption) ?_ ?_) | omega | (simp only [szs]; omega) | (simp only [szs] at *; omega))))))) (fun hHeld => ?_)
  refine anyZ_free (i := 0) (oi := ?oi_1) (v := ?v_1) ?hi_1 ?hs_1 ?hf_1 ?hr_1 ?hQ_1 (Or.inl ⟨?hw_1, ?hy_1⟩) ?hrest_1
  case hi_1 => (simp only [List.getElem?_toArray, List.getElem?_cons_succ, List.getElem?_cons_zero]; exact rfl)
  case hs_1 => kernel_rfl
  case hf_1 => kernel_rfl
  case hr_1 => kernel_rfl
  case hQ_1 => exact fun _ _ _ h => h
  case hw_1 => rfl
  case hy_1 => (intro w _; go_simp; try with_reducible rfl)
  try simp only [Act.put, List.setIfInBounds_toArray, List.set_cons_zero, List.set_cons_succ]
  refine anyZ_free (i := 1) (oi := ?oi_2) (v := ?v_2) ?hi_2 ?hs_2 ?hf_2 ?hr_2 ?hQ_2 (Or.inl ⟨?hw_2, ?hy_2⟩) ?hrest_2
  case hi_2 => (simp only [List.getElem?_toArray, List.getElem?_cons_succ, List.getElem?_cons_zero]; exact rfl)
  case hs_2 => kernel_rfl
  case hf_2 => kernel_rfl
  case hr_2 => kernel_rfl
  case hQ_2 => exact fun _ _ _ h => h
  case hw_2 => rfl
  case hy_2 => (intro w _; go_simp; try with_reducible rfl)
  try simp only [Act.put, List.setIfInBounds_toArray, List.set_cons_zero, List.set_cons_succ]
  refine anyZ_free (i := 2) (oi := ?oi_3) (v := ?v_3) ?hi_3 ?hs_3 ?hf_3 ?hr_3 ?hQ_3 (Or.inl ⟨?hw_3, ?hy_3⟩) ?hrest_3
  case hi_3 => (simp only [List.getElem?_toArray, List.getElem?_cons_succ, List.getElem?_cons_zero]; exact rfl)
  case hs_3 => kernel_rfl
  case hf_3 => kernel_rfl
  case hr_3 => kernel_rfl
  case hQ_3 => exact fun _ _ _ h => h
  case hw_3 => rfl
  case hy_3 => (intro w _; go_simp; try with_reducible rfl)
  try simp only [Act.put, List.setIfInBounds_toArray, List.set_cons_zero, List.set_cons_succ]
  refine anyZ_free (i := 3) (oi := ?oi_4) (v := ?v_4) ?hi_4 ?hs_4 ?hf_4 ?hr_4 ?hQ_4 (Or.inl ⟨?hw_4, ?hy_4⟩) ?hrest_4
  case hi_4 => (simp only [List.getElem?_toArray, List.getElem?_cons_succ, List.getElem?_cons_zero]; exact rfl)
  case hs_4 => kernel_rfl
  case hf_4 => kernel_rfl
  case hr_4 => kernel_rfl
  case hQ_4 => exact fun _ _ _ h => h
  case hw_4 => rfl
  case hy_4 => (intro w _; go_simp; try with_reducible rfl)
  try simp only [Act.put, List.setIfInBounds_toArray, List.set_cons_zero, List.set_cons_succ]
  refine anyZ_take (i := 4) (oi := ?oi_5) (v := ?v_5) ?hi_5 ?hz_5 ?hs_5 ?hf_5 ?hr_5 ?hQ_5 (Or.inl ⟨?hw_5, ?hy_5⟩) ?hS_5 ?hrest_5
  case hi_5 => (simp only [List.getElem?_toArray, List.getElem?_cons_succ, List.getElem?_cons_zero]; exact rfl)
  case hz_5 => kernel_rfl
  case hs_5 => kernel_rfl
  case hf_5 => kernel_rfl
  case hr_5 => kernel_rfl
  case hQ_5 => exact fun _ _ _ h => h
  case hw_5 => rfl
  case hS_5 => assumption
  case hy_5 => (intro w hSw; (try dsimp only at hSw); go_simp; try with_reducible rfl)
  try simp only [Act.put, List.setIfInBounds_toArray, List.set_cons_zero, List.set_cons_succ]
  refine anyZ_free (i := 5) (oi := ?oi_6) (v := ?v_6) ?hi_6 ?hs_6 ?hf_6 ?hr_6 ?hQ_6 (Or.inl ⟨?hw_6, ?hy_6⟩) ?hrest_6
  case hi_6 => (simp only [List.getElem?_toArray, List.getElem?_cons_succ, List.getElem?_cons_zero]; exact rfl)
  case hs_6 => kernel_rfl
  case hf_6 => kernel_rfl
  case hr_6 => kernel_rfl
  case hQ_6 => exact fun _ _ _ h => h
  case hw_6 => rfl
  case hy_6 => (intro w _; go_simp; try with_reducible rfl)
  try simp only [Act.put, List.setIfInBounds_toArray, List.set_cons_zero, List.set_cons_succ]
  refine anyZ_free (i := 7) (oi := ?oi_7) (v := ?v_7) ?hi_7 ?hs_7 ?hf_7 ?hr_7 ?hQ_7 (Or.inl ⟨?hw_7, ?hy_7⟩) ?hrest_7
  case hi_7 => (simp only [List.getElem?_toArray, List.getElem?_cons_succ, List.getElem?_cons_zero]; exact rfl)
  case hs_7 => kernel_rfl
  case hf_7 => kernel_rfl
  case hr_7 => kernel_rfl
  case hQ_7 => exact fun _ _ _ h => h
  case hw_7 => rfl
  case hy_7 => (intro w _; go_simp; try with_reducible rfl)
  try simp only [Act.put, List.setIfInBounds_toArray, List.set_cons_zero, List.set_cons_succ]
  refine anyZ_free (i := 9) (oi := ?oi_8) (v := ?v_8) ?hi_8 ?hs_8 ?hf_8 ?hr_8 ?hQ_8 (Or.inl ⟨?hw_8, ?hy_8⟩) ?hrest_8
  case hi_8 => (simp only [List.getElem?_toArray, List.getElem?_cons_succ, List.getElem?_cons_zero]; exact rfl)
  case hs_8 => kernel_rfl
  case hf_8 => kernel_rfl
  case hr_8 => kernel_rfl
  case hQ_8 => exact fun _ _ _ h => h
  case hw_8 => rfl
  case hy_8 => (intro w _; go_simp; try with_reducible rfl)
  try simp only [Act.put, List.setIfInBounds_toArray, List.set_cons_zero, List.set_cons_succ]
  refine anyZ_ready (rs := [6]) (by kernel_rfl) (by simp) ?_
  refine (AllZ.cons (o := ?o_9) ?ho_9 (fun K hK => ?st_9) AllZ.nil)
  case ho_9 => (simp only [List.getElem?_toArray, List.getElem?_cons_succ, List.getElem?_cons_zero]; exact rfl)
  case st_9 =>
    go_simp
    (go_at_call 68; (with_reducible refine (cA _ (by (repeat' (first | (with_reducible first | exact Below.refl _ _ | assumption | refine Below.alloc ?_ ?_ _ | refine Below.drew ?_ | refine below_drewN ?_ _ | refine Below.setCell ?_ ?_ _ | refine below_via (by with_reducible assumption) ?_ ?_) | omega | (simp only [szs]; omega) | (simp only [szs] at *; omega))))).mono ?_); rintro e w1 ⟨v1, rfl, s1, b1⟩; have z1 := b1.size; (try simp only [szs] at z1); obtain ⟨P1, p1, q1, rfl, a1, n1, o1⟩ := s1.made hA'.out; (try unfold Lst.val))
    refine hK.out _ _ (by ((try dsimp only); (exact hkeep.out _ (by (repeat' (first | (with_reducible first | exact Below.refl _ _ | assumption | refine Below.alloc ?_ ?_ _ | refine Below.drew ?_ | refine below_drewN ?_ _ | refine Below.setCell ?_ ?_ _ | refine below_via (by with_reducible assumption) ?_ ?_) | omega | (simp only [szs]; omega) | (simp only [szs] at *; omega))))))) (fun hHeld => ?_)
    clear hK K
    try simp only [Act.put, List.setIfInBounds_toArray, List.set_cons_zero, List.set_cons_succ]
    refine anyZ_ready (rs := [8]) (by kernel_rfl) (by simp) ?_
    refine (AllZ.cons (o := ?o_10) ?ho_10 (fun K hK => ?st_10) AllZ.nil)
    case ho_10 => (simp only [List.getElem?_toArray, List.getElem?_cons_succ, List.getElem?_cons_zero]; exact rfl)
    case st_10 =>
      go_simp
      (go_at_call 68; (with_reducible refine (cB _ (by (repeat' (first | (with_reducible first | exact Below.refl _ _ | assumption | refine Below.alloc ?_ ?_ _ | refine Below.drew ?_ | refine below_drewN ?_ _ | refine Below.setCell ?_ ?_ _ | refine below_via (by with_reducible assumption) ?_ ?_) | omega | (simp only [szs]; omega) | (simp only [szs] at *; omega))))).mono ?_); rintro e w2 ⟨v2, rfl, s2, b2⟩; have z2 := b2.size; (try simp only [szs] at z2); obtain ⟨P2, p2, q2, rfl, a2, n2, o2⟩ := s2.made hB'.out; (try unfold Lst.val))
      refine hK.out _ _ (by ((try dsimp only); (exact hkeep.out _ (by (repeat' (first | (with_reducible first | exact Below.refl _ _ | assumption | refine Below.alloc ?_ ?_ _ | refine Below.drew ?_ | refine below_drewN ?_ _ | refine Below.setCell ?_ ?_ _ | refine below_via (by with_reducible assumption) ?_ ?_) | omega | (simp only [szs]; omega) | (simp only [szs] at *; omega))))))) (fun hHeld => ?_)
      clear hK K
      try simp only [Act.put, List.setIfInBounds_toArray, List.set_cons_zero, List.set_cons_succ]
      refine anyZ_ready (rs := [10]) (by kernel_rfl) (by simp) ?_
      refine (AllZ.cons (o := ?o_11) ?ho_11 (fun K hK => ?st_11) AllZ.nil)
      case ho_11 => (simp only [List.getElem?_toArray, List.getElem?_cons_succ, List.getElem?_cons_zero]; exact rfl)
      case st_11 =>
        go_simp
        (go_at_call 68; (with_reducible refine (cC _ (by (repeat' (first | (with_reducible first | exact Below.refl _ _ | assumption | refine Below.alloc ?_ ?_ _ | refine Below.drew ?_ | refine below_drewN ?_ _ | refine Below.setCell ?_ ?_ _ | refine below_via (by with_reducible assumption) ?_ ?_) | omega | (simp only [szs]; omega) | (simp only [szs] at *; omega))))).mono ?_); rintro e w3 ⟨v3, rfl, s3, b3⟩; have z3 := b3.size; (try simp only [szs] at z3); obtain ⟨P3, p3, q3, rfl, a3, n3, o3⟩ := s3.made hC'.out; (try unfold Lst.val))
        refine hK.out _ _ (by ((try dsimp only); (exact hkeep.out _ (by (repeat' (first | (with_reducible first | exact Below.refl _ _ | assumption | refine Below.alloc ?_ ?_ _ | refine Below.drew ?_ | refine below_drewN ?_ _ | refine Below.setCell ?_ ?_ _ | refine below_via (by with_reducible assumption) ?_ ?_) | omega | (simp only [szs]; omega) | (simp only [szs] at *; omega))))))) (fun hHeld => ?_)
        clear hK K
        try simp only [Act.put, List.setIfInBounds_toArray, List.set_cons_zero, List.set_cons_succ]
        refine anyZ_free (i := 11) (oi := ?oi_12) (v := ?v_12) ?hi_12 ?hs_12 ?hf_12 ?hr_12 ?hQ_12 (Or.inl ⟨?hw_12, ?hy_12⟩) ?hrest_12
        case hi_12 => (simp only [List.getElem?_toArray, List.getElem?_cons_succ, List.getElem?_cons_zero]; exact rfl)
        case hs_12 => kernel_rfl
        case hf_12 => kernel_rfl
        case hr_12 => kernel_rfl
        case hQ_12 => exact fun _ _ _ h => h
        case hw_12 => rfl
        case hy_12 => (intro w _; go_simp; try with_reducible rfl)
        try simp only [Act.put, List.setIfInBounds_toArray, List.set_cons_zero, List.set_cons_succ]
        refine anyZ_ready (rs := [12]) (by kernel_rfl) (by simp) ?_
        refine (AllZ.cons (o := ?o_13) ?ho_13 (fun K hK => ?st_13) AllZ.nil)
        case ho_13 => (simp only [List.getElem?_toArray, List.getElem?_cons_succ, List.getElem?_cons_zero]; exact rfl)
        case st_13 =>
          go_simp
          refine hK.out _ _ (by ((try dsimp only); (exact hkeep.out _ (by (repeat' (first | (with_reducible first | exact Below.refl _ _ | assumption | refine Below.alloc ?_ ?_ _ | refine Below.drew ?_ | refine below_drewN ?_ _ | refine Below.setCell ?_ ?_ _ | refine below_via (by with_reducible assumption) ?_ ?_) | omega | (simp only [szs]; omega) | (simp only [szs] at *; omega))))))) (fun hHeld => ?_)
          clear hK K
          try simp only [Act.put, List.setIfInBounds_toArray, List.set_cons_zero, List.set_cons_succ]
          refine anyZ_ready (rs := [13]) (by kernel_rfl) (by simp) ?_
          refine (AllZ.last (o := ?o_14) ?ho_14 (by rfl) (fun K hK => ?st_14) AllZ.nil)
          case ho_14 => (simp only [List.getElem?_toArray, List.getElem?_cons_succ, List.getElem?_cons_zero]; exact rfl)
          case st_14 =>
            rw [if_pos (by rfl)]; have hb3 : Below w.heap.size w (w3.alloc (.cells #[.slice P1.ad P1.n P1.c, .slice P2.ad P2.n P2.c, .slice P3.ad P3.n P3.c] 63)) := (by (repeat' (first | (with_reducible first | exact Below.refl _ _ | assumption | refine Below.alloc ?_ ?_ _ | refine Below.drew ?_ | refine below_drewN ?_ _ | refine Below.setCell ?_ ?_ _ | refine below_via (by with_reducible assumption) ?_ ?_) | omega | (simp only [szs]; omega) | (simp only [szs] at *; omega)))); have e12 : Below w1.heap.size w1 (w3.alloc (.cells #[.slice P1.ad P1.n P1.c, .slice P2.ad P2.n P2.c, .slice P3.ad P3.n P3.c] 63)) := (below_via b3 b2 b2.size).alloc (by omega) _; have e23 : Below w2.heap.size w2 (w3.alloc (.cells #[.slice P1.ad P1.n P1.c, .slice P2.ad P2.n P2.c, .slice P3.ad P3.n P3.c] 63)) := b3.alloc (by omega) _; have e33 : Below w3.heap.size w3 (w3.alloc (.cells #[.slice P1.ad P1.n P1.c, .slice P2.ad P2.n P2.c, .slice P3.ad P3.n P3.c] 63)) := (Below.refl _ _).alloc (Nat.le_refl _) _; obtain ⟨s, t3, ⟨l1, l2, l3⟩, g1, g2⟩ := t'.out.lists hb3 (TrmsAt.to a1 e12 (Nat.le_refl _)) (TrmsAt.to a2 e23 (Nat.le_refl _)) (TrmsAt.to a3 e33 (Nat.le_refl _)) (fun k hk => (by have := o1 k hk; simp only [szs] at this; omega)) (fun k hk => (by have := o2 k hk; omega)) (fun k hk => (by have := o3 k hk; omega)); (refine wp_appRF _ _ rfl vr S.m R rfl t3.rows w3.heap.size P1 P2 P3 rfl (by unfold Lst.val; simp [go_sem]) (by unfold Lst.val; simp [go_sem]) (by unfold Lst.val; simp [go_sem]) (by omega) ?_); intro g cap w4 h1 h2 h3; have k4 : KeepO (fun k => s k = 2) (w3.alloc (.cells #[.slice P1.ad P1.n P1.c, .slice P2.ad P2.n P2.c, .slice P3.ad P3.n P3.c] 63)) w4 := KeepO.grown h2 t3.rr; have d4 : w4.cell? ⟨b, 2, none⟩ = some vr := k4.cell t3.c2 (by rw [t3.rb]; decide); have f4 : w4.frozen? ⟨b, 2, none⟩ = false := (k4.frozen t3.blt (by rw [t3.rb]; decide)).trans (t3.f 2 (by decide)); obtain ⟨q, tq, j1, j2, j3⟩ := t3.push (w' := w4) (vr' := .slice (some ⟨g, 0, none⟩) (S.m + 1) cap) h2 h1 (fun k hk => (by have e : g = k := (by simpa [Value.ownBlock] using hk); rw [← e]; exact h3)) (fun i hi => if_neg (by omega)) (fun j hj => (by rw [show putR S.m P1 P2 P3 R S.m = row3 P1 P2 P3 from if_pos rfl]; exact row3_all l1 l2 l3 j)); have tq' : Hid (GadP q (w4.setCell ⟨b, 2, none⟩ (.slice (some ⟨g, 0, none⟩) (S.m + 1) cap)) b (S.pub : Nat) (.slice (some ⟨g, 0, none⟩) (S.m + 1) cap) vv (S.m + 1) (putR S.m P1 P2 P3 R) S.n S.v) := tq; have j1' : Hid (∀ k, q k ≠ 0 → r k ≠ 0 ∨ w.heap.size ≤ k) := fun k hk => (by rcases j1 k hk with h | h; exact g1 k h; exact Or.inr (Nat.le_trans hb3.size h)); have j2' : Hid (∀ k, r k ≠ 0 → q k = r k) := fun k hk => (j2 k (by rw [g2 k hk]; exact hk)).trans (g2 k hk); have j3' : Hid (KeepO (fun k => r k ≠ 0) w (w4.setCell ⟨b, 2, none⟩ (.slice (some ⟨g, 0, none⟩) (S.m + 1) cap))) := (KeepO.of_below hb3).trans j3 (fun k hk h => (by rcases g1 k h with h' | h'; exact h'; omega)); clear hb3 e12 e23 e33 t3 l1 l2 l3 g1 g2 h1 h2 h3 k4 tq j1 j2 j3
            refine hK.out _ _ ?_
            clear hK K
            try simp only [Act.put, List.setIfInBounds_toArray, List.set_cons_zero, List.set_cons_succ]
            refine anyZ_free (i := 14) (oi := ?oi_15) (v := ?v_15) ?hi_15 ?hs_15 ?hf_15 ?hr_15 ?hQ_15 (Or.inl ⟨?hw_15, ?hy_15⟩) ?hrest_15
            case hi_15 => (simp only [List.getElem?_toArray, List.getElem?_cons_succ, List.getElem?_cons_zero]; exact rfl)
            case hs_15 => kernel_rfl
            case hf_15 => kernel_rfl
            case hr_15 => kernel_rfl
            case hQ_15 => exact fun _ _ _ h => h
            case hw_15 => rfl
            case hy_15 => (intro w _; go_simp; try with_reducible rfl)
            try simp only [Act.put, List.setIfInBounds_toArray, List.set_cons_zero, List.set_cons_succ]
            refine anyZ_free (i := 15) (oi := ?oi_16) (v := ?v_16) ?hi_16 ?hs_16 ?hf_16 ?hr_16 ?hQ_16 (Or.inl ⟨?hw_16, ?hy_16⟩) ?hrest_16
            case hi_16 => (simp only [List.getElem?_toArray, List.getElem?_cons_succ, List.getElem?_cons_zero]; exact rfl)
            case hs_16 => kernel_rfl
            case hf_16 => kernel_rfl
            case hr_16 => kernel_rfl
            case hQ_16 => exact fun _ _ _ h => h
            case hw_16 => rfl
            case hy_16 => (intro w _; go_simp; try with_reducible rfl)
            try simp only [Act.put, List.setIfInBounds_toArray, List.set_cons_zero, List.set_cons_succ]
            refine anyZ_ready (rs := [16]) (by kernel_rfl) (by simp) ?_
            refine (AllZ.last (o := ?o_17) ?ho_17 (by rfl) (fun K hK => ?st_17) AllZ.nil)
            case ho_17 => (simp only [List.getElem?_toArray, List.getElem?_cons_succ, List.getElem?_cons_zero]; exact rfl)
            case st_17 =>
              go_simp
              refine hK.out _ _ ?_
              clear hK K
              try simp only [Act.put, List.setIfInBounds_toArray, List.set_cons_zero, List.set_cons_succ]
              refine anyZ_done (by kernel_rfl) ?_ _
              refine NoPanic.normal ?_
              go_end0
              refine ⟨rfl, q, ⟨.slice (some ⟨g, 0, none⟩) (S.m + 1) cap, vv, putR S.m P1 P2 P3 R, tq'.out, ⟨fun i hi j hj => ?_⟩, fun i hi j hj => ?_⟩, j1'.out, j2'.out, j3'.out⟩
              · have hi' : i < S.m + 1 := hi
                rcases Nat.lt_or_ge i S.m with h | h
                · rw [show (S.row a' b' c').R i = S.R i from if_neg (by omega), show putR S.m P1 P2 P3 R i = R i from if_neg (by omega)]
                  exact hS.sum i h j hj
                · obtain rfl : i = S.m := by omega
                  rw [show (S.row a' b' c').R S.m = row3 a' b' c' from if_pos rfl, show putR S.m P1 P2 P3 R S.m = row3 P1 P2 P3 from if_pos rfl]
                  obtain rfl | rfl | rfl : j = 0 ∨ j = 1 ∨ j = 2 := by omega
                  · exact eA.isSum q1
                  · exact eB.isSum q2
                  · exact eC.isSum q3
              · have hi' : i < S.m + 1 := hi
                rcases Nat.lt_or_ge i S.m with h | h
                · rw [show putR S.m P1 P2 P3 R i = R i from if_neg (by omega)]
                  exact hO i h j hj
                · obtain rfl : i = S.m := by omega
                  rw [show putR S.m P1 P2 P3 R S.m = row3 P1 P2 P3 from if_pos rfl]
                  exact row3_all p1 p2 p3 j
theorem kvalueW (r : Nat → Nat) (b : Nat) (S : Mk) (hG : S.Good) (hn : S.n ≤ 100000) (A : Lst) (hA : A.Ok) (a' : Lst) (eA : LEq A a') (w : World) (h : GMd r w b S) (tA : A.At w.heap.size w) :
    Calls Try.prog 56 #[.pointer (some ⟨b, 0, none⟩), A.val] w fun e w' => e = .returned (.int .u64 ((valL a' S.n S.v).val : Nat)) ∧ Below w.heap.size w w' := by
  obtain ⟨vr, vv, R, t, _, _⟩ := h
  obtain ⟨av, cv, rfl, hsrc⟩ := t.src
  have c1 := t.c1
  have cV := rankValueC A hA av S.n cv (by omega) S.v (fun i => by have := hG.lt i; omega) w tA hsrc
  rw [eA.val] at cV
  unfold Lst.val at cV ⊢
  clear t hsrc hG hA
  go_enter Try.func56, Try.ntmps56
  go_wp2_with (go_at_call 64; (with_reducible refine cV.mono ?_); rintro e w1 ⟨rfl, b1⟩)
  go_ret
  exact ⟨rfl, b1⟩
end Go.Proofs.Ytdbolfmmlmoiaaa

namespace Go.Proofs.Ytdbolfmmlmoiaaa
open Go.RowKit Go.Proofs
set_option linter.unusedVariables false
set_option linter.unusedSimpArgs false
attribute [local go_sem ↓] Go.wp_at_zero Go.wp_at_succ
theorem kmodMul (a b : Nat) (ha : a < 18446744073709551616) (hb : b < 18446744073709551616) (w : World) :
    Calls Try.prog 59 #[.int .u64 288230376287764481, .int .u64 a, .int .u64 b] w fun e w' => e = .returned (.int .u64 ((Ob.toG a * Ob.toG b).val : Nat)) ∧ ∃ n, w' = w.drewN n := by
  rw [← Ob.mulG]
  exact mul_any Ob.RE a b w (by decide) ha hb
theorem kmodAdd (a b : Nat) (ha : a < 18446744073709551616) (hb : b < 18446744073709551616) (w : World) :
    Calls Try.prog 61 #[.int .u64 288230376287764481, .int .u64 a, .int .u64 b] w fun e w' => e = .returned (.int .u64 ((Ob.toG a + Ob.toG b).val : Nat)) ∧ w = w' := by
  rw [← Ob.addG]
  exact add_any Ob.RE a b w (by decide) ha hb
set_option maxRecDepth 4000 in
set_option maxHeartbeats 8000000 in
theorem kprodW (r : Nat → Nat) (b : Nat) (S : Mk) (hG : S.Good) (hn : S.n ≤ 100000) (hm : S.m ≤ 100000) (A B : Lst) (hA : A.Ok) (hB : B.Ok) (nA : A.n ≤ 1000) (nB : B.n ≤ 1000) (a' b' : Lst) (eA : LEq A a') (eB : LEq B b') (w : World) (h : GMd r w b S) (tA : A.At w.heap.size w) (tB : B.At w.heap.size w)
   (oA : ∀ k, A.val.ownBlock = some k → r k = 0) (oB : ∀ k, B.val.ownBlock = some k → r k = 0) :
    Calls Try.prog 51 #[.pointer (some ⟨b, 0, none⟩), A.val, B.val] w fun e w' => e = .returned (.int .i64 (S.n : Nat)) ∧ GAf r w w' b (S.mulL a' b') := by
  have h' : Hid (GMd r w b S) := h
  have cA := kvalueW r b S hG hn A hA a' eA w h tA
  have cB := fun W (hW : Below w.heap.size w W) => kvalueW r b S hG hn B hB b' eB W (h'.out.below hW) (TrmsAt.to tB hW (Nat.le_refl _))
  have cM := kmodMul (valL a' S.n S.v).val (valL b' S.n S.v).val (Ob.G_word _) (Ob.G_word _)
  rw [Ob.toG_of_val, Ob.toG_of_val] at cM
  have eX : Hid (S.fresh (valL a' S.n S.v * valL b' S.n S.v) = S.fresh (Ob.toG (valL a' S.n S.v * valL b' S.n S.v).val)) := by show _ = _; rw [Ob.toG_of_val]
  have hX : Hid ((valL a' S.n S.v * valL b' S.n S.v).val < 18446744073709551616) := Ob.G_word _
  have hlin : Hid (S.mulL a' b' = (S.fresh (valL a' S.n S.v * valL b' S.n S.v)).row a' b' (just S.n)) := rfl
  rw [hlin.out, eX.out]
  generalize (valL a' S.n S.v * valL b' S.n S.v).val = X at *
  generalize (valL a' S.n S.v).val = p at *
  generalize (valL b' S.n S.v).val = q at *
  have cF := fun W (hW : Below w.heap.size w W) => kprivW r b S hn X hX.out W (h'.out.below hW)
  have cJ := konlyW S.n (by omega)
  have tA' : Hid (A.At w.heap.size w) := tA
  have tB' : Hid (B.At w.heap.size w) := tB
  have hA' : Hid A.Ok := hA
  have hB' : Hid B.Ok := hB
  have oA' : Hid (∀ k, A.val.ownBlock = some k → r k = 0) := oA
  have oB' : Hid (∀ k, B.val.ownBlock = some k → r k = 0) := oB
  clear hlin eX hG tA tB hA hB oA oB h
  unfold Lst.val at cA cB cJ ⊢
  go_enter Try.func51, Try.ntmps51
  go_upto_region 2 with (first | (go_at_call 56; first | (with_reducible refine cA.mono ?_; rintro e w1 ⟨rfl, b1⟩) | (with_reducible refine (cB _ (by assumption)).mono ?_; rintro e w2 ⟨rfl, b2⟩)) | (go_at_call 59; (with_reducible refine (cM _).mono ?_); rintro e w' ⟨rfl, nd, rfl⟩; have b3 : Below w.heap.size w (w2.drewN nd) := below_drewN (below_via b2 b1 b1.size) nd) | (go_at_call 20; (with_reducible refine (cF _ b3).mono ?_); rintro e w3 ⟨rfl, a3⟩))
  obtain ⟨s, m3, g1, g2, g3⟩ := a3.get
  have zb2 := b3.size
  have k3 : Hid (KeepO (fun k => r k ≠ 0) w w3) := (KeepO.of_below b3).trans g3 fun _ _ h => h
  have g1' : Hid (∀ k, s k ≠ 0 → r k ≠ 0 ∨ w.heap.size ≤ k) := fun k hk => (g1 k hk).imp id fun h => Nat.le_trans zb2 h
  have g2' : Hid (∀ k, r k ≠ 0 → s k = r k) := g2
  have m3' : Hid (GMd s w3 b (S.fresh (Ob.toG X))) := m3
  have tA3 : Hid (A.At w3.heap.size w3) := at_keep tA'.out k3.out oA'.out
  have tB3 : Hid (B.At w3.heap.size w3) := at_keep tB'.out k3.out oB'.out
  clear a3 g1 g2 g3 m3 zb2 b1 b2 b3 cA cB cM cF
  go_upto_region 3 with (first | (go_at_call 52; (with_reducible refine (cJ _).mono ?_); rintro e w4 ⟨L, rfl, o4, n4, e4, t4, b4, _⟩; have n5 : Hid (L.n ≤ 1000) := (by show _ ≤ _; omega); clear n4; have m4 : GMd s w4 b (S.fresh (Ob.toG X)) := m3'.out.below b4; have cR := krowW s b (S.fresh (Ob.toG X)) hm A B L hA'.out hB'.out o4 nA nB n5.out a' b' (just S.n) eA eB e4 w4 m4 (TrmsAt.to tA3.out b4 (Nat.le_refl _)) (TrmsAt.to tB3.out b4 (Nat.le_refl _)) t4; unfold Lst.val at cR) | (go_at_call 57; (with_reducible refine cR.mono ?_); rintro e w5 ⟨rfl, a5⟩))
  have hend : Hid (GAf r w w5 b ((S.fresh (Ob.toG X)).row a' b' (just S.n))) := GAf.then g1'.out g2'.out k3.out (GAf.of_below b4 a5)
  clear a5 cR m4
  go_wp2
  go_ret
  exact ⟨by first | rfl | simp, hend.out⟩
/-- A variable that may be 0 or 1 alone. -/
def Mk.bit (S : Mk) (x : Fin Ob.RE) : Mk := (S.fresh x).row (just S.n) (less S.n 0) (lstOf [])
set_option maxRecDepth 4000 in
set_option maxHeartbeats 8000000 in
theorem kbitW (r : Nat → Nat) (b : Nat) (S : Mk) (hn : S.n ≤ 100000) (hm : S.m ≤ 100000) (X : Nat) (hX : X < 18446744073709551616) (w : World) (h : GMd r w b S) :
    Calls Try.prog 58 #[.pointer (some ⟨b, 0, none⟩), .int .u64 X] w fun e w' => e = .returned (.int .i64 (S.n : Nat)) ∧ GAf r w w' b (S.bit (Ob.toG X)) := by
  have cF := kprivW r b S hn X hX w h
  have cJ := konlyW S.n (by omega)
  have cL := klessW S.n 0 (by omega) (by decide)
  have h0 : ((0 : Nat) : Int) = 0 := rfl
  rw [h0] at cL
  unfold Lst.val at cJ cL
  clear h
  go_enter Try.func58, Try.ntmps58
  go_upto_region 2 with (go_at_call 20; (with_reducible refine cF.mono ?_); rintro e w1 ⟨rfl, a1⟩)
  obtain ⟨s, m1, g1, g2, g3⟩ := a1.get
  have m1' : Hid (GMd s w1 b (S.fresh (Ob.toG X))) := m1
  have g1' : Hid (∀ k, s k ≠ 0 → r k ≠ 0 ∨ w.heap.size ≤ k) := g1
  have g2' : Hid (∀ k, r k ≠ 0 → s k = r k) := g2
  have g3' : Hid (KeepO (fun k => r k ≠ 0) w w1) := g3
  clear a1 m1 g1 g2 g3 cF
  go_upto_region 3 with (first | (go_at_call 52; (with_reducible refine (cJ _).mono ?_); rintro e w2 ⟨P0, rfl, o2, n2, e2, t2, b2, _⟩; have n2' : Hid (P0.n ≤ 1000) := (by show _ ≤ _; omega); clear n2) | (go_at_call 60; (with_reducible refine (cL _).mono ?_); rintro e w3 ⟨P1, rfl, o3, n3, e3, t3, b3, _⟩; have n3' : Hid (P1.n ≤ 1000) := (by show _ ≤ _; omega); clear n3; have cR := krowW s b (S.fresh (Ob.toG X)) hm P0 P1 ⟨none, 0, 0, fun _ => 0, fun _ => 0⟩ o2 o3 ⟨fun _ => (by show (-9223372036854775808 : Int) ≤ 0; decide), fun _ => (by show (0 : Int) < 9223372036854775808; decide), fun _ => (by show 0 < 18446744073709551616; decide), Nat.le_refl _, (by show 0 ≤ 9223372036854775807; decide)⟩ n2'.out n3'.out (by show 0 ≤ 1000; decide) (just S.n) (less S.n 0) (lstOf []) e2 e3 ⟨rfl, fun i hi => absurd hi (Nat.not_lt_zero _)⟩ w3 ((m1'.out.below b2).below b3) (TrmsAt.to t2 b3 (Nat.le_refl _)) t3 (Or.inl rfl); unfold Lst.val at cR) | (go_at_call 57; (with_reducible refine cR.mono ?_); rintro e w4 ⟨rfl, a4⟩))
  have hend : Hid (GAf r w w4 b (S.bit (Ob.toG X))) := GAf.then g1'.out g2'.out g3'.out (GAf.of_below b2 (GAf.of_below b3 a4))
  clear a4 cR
  go_wp2
  go_ret
  exact ⟨by first | rfl | simp, hend.out⟩
end Go.Proofs.Ytdbolfmmlmoiaaa

namespace Go.Proofs.Ytdbolfmmlmoiaaa
open Go.RowKit Go.Proofs
set_option linter.unusedVariables false
set_option linter.unusedSimpArgs false
/-- Block g holds n elements of so many cells: a row of one's own, whose first cells, up to k, are f's. -/
def Sto (w : World) (e : TypeId) (size g n k : Nat) (f : Nat → Value) : Prop := ∃ xs, w.ownsRow 0 e size (.slice (some ⟨g, 0, none⟩) n n) n xs ∧ ∀ j, j < k → xs[j]? = some (f j)
theorem Sto.on {w w1 : World} {e : TypeId} {size g n k : Nat} {f : Nat → Value} (h : Sto w e size g n k f) (hb : Below w.heap.size w w1) : Sto w1 e size g n k f := by
  obtain ⟨xs, h, hf⟩ := h
  exact ⟨xs, own_below h hb fun k hk => (World.ownsRow.lt h k hk).2, hf⟩
theorem Sto.keep {O : Nat → Prop} {w w1 : World} {e : TypeId} {size g n k : Nat} {f : Nat → Value} (h : Sto w e size g n k f) (hk : KeepO O w w1) (hn : ¬ O g) : Sto w1 e size g n k f := by
  obtain ⟨xs, h, hf⟩ := h
  exact ⟨xs, own_keep h hk fun k hk' => (by have e : g = k := by simpa [Value.ownBlock] using hk'
                                            rw [← e]; exact hn), hf⟩
theorem Sto.lt {w : World} {e : TypeId} {size g n k : Nat} {f : Nat → Value} (h : Sto w e size g n k f) : g < w.heap.size := by
  obtain ⟨xs, h, _⟩ := h
  exact (World.ownsRow.lt h g rfl).2
theorem Sto.fz {w : World} {e : TypeId} {size g n k : Nat} {f : Nat → Value} (h : Sto w e size g n k f) (o : Nat) : w.frozen? ⟨g, o, none⟩ = false := by
  obtain ⟨xs, h, _⟩ := h
  exact World.ownsRow.frozenAt h o
theorem Sto.cell {w : World} {e : TypeId} {size g n k : Nat} {f : Nat → Value} (h : Sto w e size g n k f) {j : Nat} (hj : j < k) (hk : k ≤ n * size) : w.cell? ⟨g, j, none⟩ = some (f j) := by
  obtain ⟨xs, h, hf⟩ := h
  rw [World.ownsRow.cellAt h j (by omega)]
  exact hf j hj
/-- Some cell that is there. -/
theorem Sto.any {w : World} {e : TypeId} {size g n k : Nat} {f : Nat → Value} (h : Sto w e size g n k f) {j : Nat} (hj : j < n * size) : ∃ x, w.cell? ⟨g, j, none⟩ = some x := by
  obtain ⟨xs, h, _⟩ := h
  rw [World.ownsRow.cellAt h j hj]
  exact ⟨_, List.getElem?_eq_getElem (by have := h.1; omega)⟩
/-- One cell stored. -/
theorem Sto.set {w : World} {e : TypeId} {size g n k : Nat} {f : Nat → Value} (h : Sto w e size g n k f) (hk : k < n * size) {u : Value} (hu : f k = u) : Sto (w.setCell ⟨g, k, none⟩ u) e size g n (k + 1) f := by
  obtain ⟨xs, h, hf⟩ := h
  refine ⟨_, (World.ownsRow.stored h k u).1, fun j hj => ?_⟩
  have hl := h.1
  rcases Nat.lt_or_ge j k with h1 | h1
  · rw [List.getElem?_set_ne (by omega)]
    exact hf j h1
  · obtain rfl : j = k := by omega
    rw [List.getElem?_set_self (by omega), hu]
theorem Sto.congr {w : World} {e : TypeId} {size g n k : Nat} {f f' : Nat → Value} (h : Sto w e size g n k f) (hf : ∀ j, j < k → f j = f' j) : Sto w e size g n k f' := by
  obtain ⟨xs, h, h2⟩ := h
  exact ⟨xs, h, fun j hj => by rw [h2 j hj, hf j hj]⟩
theorem Sto.keepSet {w : World} {g o : Nat} {u : Value} {O : Nat → Prop} (hO : O g) : KeepO O w (w.setCell ⟨g, o, none⟩ u) := KeepO.setCell w g o u hO
/-- make([]api.Term, n), make([]int, n), make([]api.Row, n). -/
theorem make_trms (n : Nat) (hn : n ≤ 1000000) (w : World) (f : Nat → Value) : ∃ w', (Instr.makeSlice 35 (.int .i64 (n : Nat)) (.int .i64 (n : Nat))).run Try.prog w = .ok (.slice (some ⟨w.heap.size, 0, none⟩) n n) w' ∧ Sto w' 61 2 w.heap.size n 0 f ∧ Below w.heap.size w w' := by
  obtain ⟨i0, hi, hz1, hz2, hz0⟩ := trmInfo
  obtain ⟨w', h1, h2, h3⟩ := run_make_full (P := Try.prog) w 0 35 61 i0 _ 2 Try.underlying35 hi hz0 hz1 .i64 .i64 n (by rw [hz2]; omega) (by unfold maxLen; omega) (Nat.zero_le _)
  exact ⟨w', h1, ⟨_, h2, fun j hj => absurd hj (Nat.not_lt_zero _)⟩, (Below.refl _ w).grown h3 (Nat.le_refl _) (fun k hk => by cases hk)⟩
theorem make_ids (n : Nat) (hn : n ≤ 1000000) (w : World) (f : Nat → Value) : ∃ w', (Instr.makeSlice 36 (.int .i64 (n : Nat)) (.int .i64 (n : Nat))).run Try.prog w = .ok (.slice (some ⟨w.heap.size, 0, none⟩) n n) w' ∧ Sto w' 3 1 w.heap.size n 0 f ∧ Below w.heap.size w w' := by
  obtain ⟨i0, hi, hz1, hz2, hz0⟩ := idInfo
  obtain ⟨w', h1, h2, h3⟩ := run_make_full (P := Try.prog) w 0 36 3 i0 _ 1 Try.underlying36 hi hz0 hz1 .i64 .i64 n (by rw [hz2]; omega) (by unfold maxLen; omega) (Nat.zero_le _)
  exact ⟨w', h1, ⟨_, h2, fun j hj => absurd hj (Nat.not_lt_zero _)⟩, (Below.refl _ w).grown h3 (Nat.le_refl _) (fun k hk => by cases hk)⟩
theorem make_rows (n : Nat) (hn : n ≤ 1000000) (w : World) (f : Nat → Value) : ∃ w', (Instr.makeSlice 27 (.int .i64 (n : Nat)) (.int .i64 (n : Nat))).run Try.prog w = .ok (.slice (some ⟨w.heap.size, 0, none⟩) n n) w' ∧ Sto w' 63 3 w.heap.size n 0 f ∧ Below w.heap.size w w' := by
  obtain ⟨i0, hi, hz1, hz2, hz0⟩ := rowInfo
  obtain ⟨w', h1, h2, h3⟩ := run_make_full (P := Try.prog) w 0 27 63 i0 _ 3 Try.underlying27 hi hz0 hz1 .i64 .i64 n (by rw [hz2]; omega) (by unfold maxLen; omega) (Nat.zero_le _)
  exact ⟨w', h1, ⟨_, h2, fun j hj => absurd hj (Nat.not_lt_zero _)⟩, (Below.refl _ w).grown h3 (Nat.le_refl _) (fun k hk => by cases hk)⟩
/-- The cells of a list of terms, of a row of integers, of rows. -/
def trmF (V : Nat → Int) (K : Nat → Nat) (j : Nat) : Value := if j % 2 = 0 then .int .i64 (V (j / 2)) else .int .u64 (K (j / 2) : Nat)
def idF (z : Nat → Int) (j : Nat) : Value := .int .i64 (z j)
def rowF (R : Nat → Nat → Lst) (j : Nat) : Value := (R (j / 3) (j % 3)).val
theorem trmF_0 (V : Nat → Int) (K : Nat → Nat) (i : Nat) : trmF V K (i * 2) = .int .i64 (V i) := by
  unfold trmF
  rw [if_pos (by omega), show i * 2 / 2 = i by omega]
theorem trmF_1 (V : Nat → Int) (K : Nat → Nat) (i : Nat) : trmF V K (i * 2 + 1) = .int .u64 (K i : Nat) := by
  unfold trmF
  rw [if_neg (by omega), show (i * 2 + 1) / 2 = i by omega]
theorem rowF_at (R : Nat → Nat → Lst) (i j : Nat) (hj : j < 3) : rowF R (i * 3 + j) = (R i j).val := by
  unfold rowF
  rw [show (i * 3 + j) / 3 = i by omega, show (i * 3 + j) % 3 = j by omega]
theorem Sto.trms {w : World} {g n : Nat} {V : Nat → Int} {K : Nat → Nat} (h : Sto w 61 2 g n (n * 2) (trmF V K)) : TrmsIn w g 0 n V K := by
  refine ⟨h.lt, fun i hi => ?_, fun i hi => ?_⟩
  · have := h.cell (j := i * 2) (by omega) (Nat.le_refl _)
    rw [trmF_0] at this
    rw [Nat.zero_add]
    exact this
  · have := h.cell (j := i * 2 + 1) (by omega) (Nat.le_refl _)
    rw [trmF_1] at this
    rw [Nat.zero_add]
    exact this
theorem Sto.ids {w : World} {g n : Nat} {z : Nat → Int} (h : Sto w 3 1 g n (n * 1) (idF z)) : OwnI w (.slice (some ⟨g, 0, none⟩) n n) n z := by
  obtain ⟨xs, h, hf⟩ := h
  have hl := h.1
  have e : xs = ials z n := by
    apply List.ext_getElem?
    intro j
    rcases Nat.lt_or_ge j n with hj | hj
    · rw [hf j (by omega), ials_get z n j hj]; rfl
    · rw [List.getElem?_eq_none (by omega), List.getElem?_eq_none (by simp [ials]; omega)]
  unfold OwnI
  rw [← e]
  exact h
end Go.Proofs.Ytdbolfmmlmoiaaa

namespace Go.Proofs.Ytdbolfmmlmoiaaa
open Go.RowKit Go.Proofs
set_option linter.unusedVariables false
set_option linter.unusedSimpArgs false
attribute [local go_sem ↓] Go.wp_at_zero Go.wp_at_succ
set_option maxRecDepth 4000 in
set_option maxHeartbeats 8000000 in
theorem klinearW (r : Nat → Nat) (b : Nat) (S : Mk) (hG : S.Good) (hn : S.n ≤ 100000) (hm : S.m ≤ 100000) (L : Lst) (hL : L.Ok) (nL : L.n ≤ 1000) (L' : Lst) (eL : LEq (S.isL L) L') (w : World) (h : GMd r w b S) (tL : L.At w.heap.size w) :
    Calls Try.prog 30 #[.pointer (some ⟨b, 0, none⟩), L.val] w fun e w' => e = .returned (.int .i64 (S.n : Nat)) ∧ GAf r w w' b (S.linear L') := by
  have h' : Hid (GMd r w b S) := h
  have hrl : Hid (∀ k, w.heap.size ≤ k → r k = 0) := fun k hk => h.zero k hk
  have hG' : Hid S.Good := hG
  have tL' : Hid (L.At w.heap.size w) := tL
  have hL' : Hid L.Ok := hL
  have cI := fun (v : Int) W (hW : Below w.heap.size w W) => kthereW r b S hG v W (h'.out.below hW)
  have eL' : Hid (LEq (S.isL L) L') := eL
  obtain ⟨W1, hmk, hs0, hB1⟩ := make_trms L.n (by omega) w (trmF (fun j => ((S.is (L.V j) : Nat) : Int)) L.K)
  have hs1 : Hid (Sto W1 61 2 w.heap.size L.n 0 (trmF (fun j => ((S.is (L.V j) : Nat) : Int)) L.K)) := hs0
  obtain ⟨g, hg⟩ : ∃ g, Hid (w.heap.size = g) := ⟨_, rfl⟩
  rw [hg.out] at hmk hs1
  clear hG tL hL eL h hs0
  unfold Lst.val
  go_enter Try.func30, Try.ntmps30
  go_wp2
  clear hmk
  go_loopw [14] (fun si wr => ∃ i : Nat, i ≤ L.n ∧ si = .int .i64 i ∧ Below w.heap.size w wr ∧ Hid (Sto wr 61 2 g L.n (i * 2) (trmF (fun j => ((S.is (L.V j) : Nat) : Int)) L.K))) (fun si _ => L.n - (intOf si).toNat)
  case atStart => exact ⟨0, by omega, rfl, hB1, hs1⟩
  case round =>
    clear hB1 hs1
    obtain ⟨i, hi, rfl, hB, hs⟩ := hrel
    have zB := hB.size
    by_cases hlt : i < L.n
    · have hlt' : (i : Int) < (L.n : Int) := by omega
      have hi0 : (0 : Int) ≤ (i : Int) := by omega
      rcases tL'.out with hz | ⟨g0, off, hb, lb, tb⟩
      · omega
      rw [hb]
      have c1 := fun W (hW : Below w.heap.size w W) => cI (L.V i) W hW
      obtain ⟨x, hx⟩ : ∃ x, Hid (L.V i = x) := ⟨_, rfl⟩
      obtain ⟨q, hq⟩ : ∃ q, Hid (((S.is (L.V i) : Nat) : Int) = q) := ⟨_, rfl⟩
      obtain ⟨k, hk⟩ : ∃ k, Hid (L.K i = k) := ⟨_, rfl⟩
      have d0 := (tb.below hB lb).c0 i hlt
      have d1 := (tb.below hB lb).c1 i hlt
      rw [hq.out] at c1
      rw [hx.out] at c1 d0
      rw [hk.out] at d1
      have fq : Hid (trmF (fun j => ((S.is (L.V j) : Nat) : Int)) L.K (i * 2) = .int .i64 q) := by show _ = _; rw [trmF_0]; rw [← hq.out]
      have fk : Hid (trmF (fun j => ((S.is (L.V j) : Nat) : Int)) L.K (i * 2 + 1) = .int .u64 (k : Nat)) := by show _ = _; rw [trmF_1]; rw [← hk.out]
      clear tb lb hb hq hx hk
      go_upto_region 5 with (fail)
      have hA4 : Below wr.heap.size wr (wr.alloc (.cells #[.int .i64 x, .int .u64 (k : Nat)] 61)) := (Below.refl _ _).alloc (Nat.le_refl _) _
      have hB4 : Hid (Below w.heap.size w (wr.alloc (.cells #[.int .i64 x, .int .u64 (k : Nat)] 61))) := below_via hA4 hB zB
      have hs4 : Hid (Sto (wr.alloc (.cells #[.int .i64 x, .int .u64 (k : Nat)] 61)) 61 2 g L.n (i * 2) (trmF (fun j => ((S.is (L.V j) : Nat) : Int)) L.K)) := hs.out.on hA4
      have t4 : Hid (Two (wr.alloc (.cells #[.int .i64 x, .int .u64 (k : Nat)] 61)) wr.heap.size (.int .i64 x) (.int .u64 (k : Nat))) := by show Two _ _ _ _; (repeat' (first | (with_reducible first | assumption | exact Two.own (by with_reducible assumption) | refine Two.set ?_ _ _ | refine Own2.set ?_ _ _ | refine Two.drew ?_ | refine Two.drewN ?_ _ | refine Own2.drew ?_ | refine Own2.drewN ?_ _ | (refine Two.new ?_; simp only [szs]; done) | (refine Own2.new ?_; simp only [szs]; done) | refine Two.alloc ?_ _ | refine Own2.alloc ?_ _ | refine Two.far ?_ ?_ _ _ | refine Own2.far ?_ ?_ _ _ | refine Two.via (by with_reducible assumption) ?_ ?_ | refine Own2.via (by with_reducible assumption) ?_ ?_) | omega | (simp only [szs]; omega)))
      have hgw : Hid (w.heap.size ≤ g) := by show _ ≤ _; have := hg.out; omega
      generalize (wr.alloc (.cells #[.int .i64 x, .int .u64 (k : Nat)] 61)) = W4 at *
      generalize wr.heap.size = N at *
      obtain ⟨e0, he0⟩ := hs4.out.any (j := i * 2) (by omega)
      obtain ⟨e1, he1⟩ := hs4.out.any (j := i * 2 + 1) (by omega)
      have hkeep : Hid (∀ W, Below W4.heap.size W4 W → (fun w' => w'.cell? ⟨N, 0, none⟩ = some (.int .i64 x) ∧ w'.cell? ⟨N, 1, none⟩ = some (.int .u64 (k : Nat))) W) := fun W hW =>
        have t := t4.out.below hW t4.out.lt
        ⟨t.c0, t.c1⟩
      have c2 : ∀ W, Below W4.heap.size W4 W → _ := fun W (hW : Below W4.heap.size W4 W) => c1 W (below_via hW hB4.out hB4.out.size)
      have fz0 := hs4.out.fz (i * 2)
      have fz1 := hs4.out.fz (i * 2 + 1)
      clear c1 hB d0 d1 hs hA4 zB
      refine wp_region_noPanic ?_
      refine region_lastly (S := (fun w' => w'.cell? ⟨N, 0, none⟩ = some (.int .i64 x) ∧ w'.cell? ⟨N, 1, none⟩ = some (.int .u64 (k : Nat)))) [10] (by kernel_rfl) (by ((try dsimp only); (exact hkeep.out _ (by (repeat' (first | (with_reducible first | exact Below.refl _ _ | assumption | refine Below.alloc ?_ ?_ _ | refine Below.drew ?_ | refine below_drewN ?_ _ | refine Below.setCell ?_ ?_ _ | refine below_via (by with_reducible assumption) ?_ ?_) | omega | (simp only [szs]; omega) | (simp only [szs] at *; omega))))))) (fun hHeld => ?_)
      refine anyZ_free (i := 0) (oi := ?oi_1) (v := ?v_1) ?hi_1 ?hs_1 ?hf_1 ?hr_1 ?hQ_1 (Or.inl ⟨?hw_1, ?hy_1⟩) ?hrest_1
      case hi_1 => (simp only [List.getElem?_toArray, List.getElem?_cons_succ, List.getElem?_cons_zero]; exact rfl)
      case hs_1 => kernel_rfl
      case hf_1 => kernel_rfl
      case hr_1 => kernel_rfl
      case hQ_1 => exact fun _ _ _ h => h
      case hw_1 => rfl
      case hy_1 => (intro w _; go_simp; try with_reducible rfl)
      try simp only [Act.put, List.setIfInBounds_toArray, List.set_cons_zero, List.set_cons_succ]
      refine anyZ_free (i := 1) (oi := ?oi_2) (v := ?v_2) ?hi_2 ?hs_2 ?hf_2 ?hr_2 ?hQ_2 (Or.inl ⟨?hw_2, ?hy_2⟩) ?hrest_2
      case hi_2 => (simp only [List.getElem?_toArray, List.getElem?_cons_succ, List.getElem?_cons_zero]; exact rfl)
      case hs_2 => kernel_rfl
      case hf_2 => kernel_rfl
      case hr_2 => kernel_rfl
      case hQ_2 => exact fun _ _ _ h => h
      case hw_2 => rfl
      case hy_2 => (intro w _; go_simp; try with_reducible rfl)
      try simp only [Act.put, List.setIfInBounds_toArray, List.set_cons_zero, List.set_cons_succ]
      refine anyZ_free (i := 2) (oi := ?oi_3) (v := ?v_3) ?hi_3 ?hs_3 ?hf_3 ?hr_3 ?hQ_3 (Or.inl ⟨?hw_3, ?hy_3⟩) ?hrest_3
      case hi_3 => (simp only [List.getElem?_toArray, List.getElem?_cons_succ, List.getElem?_cons_zero]; exact rfl)
      case hs_3 => kernel_rfl
      case hf_3 => kernel_rfl
      case hr_3 => kernel_rfl
      case hQ_3 => exact fun _ _ _ h => h
      case hw_3 => rfl
      case hy_3 => (intro w _; go_simp; try with_reducible rfl)
      try simp only [Act.put, List.setIfInBounds_toArray, List.set_cons_zero, List.set_cons_succ]
      refine anyZ_free (i := 3) (oi := ?oi_4) (v := ?v_4) ?hi_4 ?hs_4 ?hf_4 ?hr_4 ?hQ_4 (Or.inl ⟨?hw_4, ?hy_4⟩) ?hrest_4
      case hi_4 => (simp only [List.getElem?_toArray, List.getElem?_cons_succ, List.getElem?_cons_zero]; exact rfl)
      case hs_4 => kernel_rfl
      case hf_4 => kernel_rfl
      case hr_4 => kernel_rfl
      case hQ_4 => exact fun _ _ _ h => h
      case hw_4 => rfl
      case hy_4 => (intro w _; go_simp; try with_reducible rfl)
      try simp only [Act.put, List.setIfInBounds_toArray, List.set_cons_zero, List.set_cons_succ]
      refine anyZ_take (i := 4) (oi := ?oi_5) (v := ?v_5) ?hi_5 ?hz_5 ?hs_5 ?hf_5 ?hr_5 ?hQ_5 (Or.inl ⟨?hw_5, ?hy_5⟩) ?hS_5 ?hrest_5
      case hi_5 => (simp only [List.getElem?_toArray, List.getElem?_cons_succ, List.getElem?_cons_zero]; exact rfl)
      case hz_5 => kernel_rfl
      case hs_5 => kernel_rfl
      case hf_5 => kernel_rfl
      case hr_5 => kernel_rfl
      case hQ_5 => exact fun _ _ _ h => h
      case hw_5 => rfl
      case hS_5 => assumption
      case hy_5 => (intro w hSw; (try dsimp only at hSw); go_simp; try with_reducible rfl)
      try simp only [Act.put, List.setIfInBounds_toArray, List.set_cons_zero, List.set_cons_succ]
      refine anyZ_free (i := 6) (oi := ?oi_6) (v := ?v_6) ?hi_6 ?hs_6 ?hf_6 ?hr_6 ?hQ_6 (Or.inl ⟨?hw_6, ?hy_6⟩) ?hrest_6
      case hi_6 => (simp only [List.getElem?_toArray, List.getElem?_cons_succ, List.getElem?_cons_zero]; exact rfl)
      case hs_6 => kernel_rfl
      case hf_6 => kernel_rfl
      case hr_6 => kernel_rfl
      case hQ_6 => exact fun _ _ _ h => h
      case hw_6 => rfl
      case hy_6 => (intro w _; go_simp; try with_reducible rfl)
      try simp only [Act.put, List.setIfInBounds_toArray, List.set_cons_zero, List.set_cons_succ]
      refine anyZ_take (i := 7) (oi := ?oi_7) (v := ?v_7) ?hi_7 ?hz_7 ?hs_7 ?hf_7 ?hr_7 ?hQ_7 (Or.inl ⟨?hw_7, ?hy_7⟩) ?hS_7 ?hrest_7
      case hi_7 => (simp only [List.getElem?_toArray, List.getElem?_cons_succ, List.getElem?_cons_zero]; exact rfl)
      case hz_7 => kernel_rfl
      case hs_7 => kernel_rfl
      case hf_7 => kernel_rfl
      case hr_7 => kernel_rfl
      case hQ_7 => exact fun _ _ _ h => h
      case hw_7 => rfl
      case hS_7 => assumption
      case hy_7 => (intro w hSw; (try dsimp only at hSw); go_simp; try with_reducible rfl)
      try simp only [Act.put, List.setIfInBounds_toArray, List.set_cons_zero, List.set_cons_succ]
      refine anyZ_ready (rs := [5]) (by kernel_rfl) (by simp) ?_
      refine (AllZ.cons (o := ?o_8) ?ho_8 (fun K hK => ?st_8) AllZ.nil)
      case ho_8 => (simp only [List.getElem?_toArray, List.getElem?_cons_succ, List.getElem?_cons_zero]; exact rfl)
      case st_8 =>
        go_simp
        (go_at_call 43; (with_reducible refine (c2 _ (by (repeat' (first | (with_reducible first | exact Below.refl _ _ | assumption | refine Below.alloc ?_ ?_ _ | refine Below.drew ?_ | refine below_drewN ?_ _ | refine Below.setCell ?_ ?_ _ | refine below_via (by with_reducible assumption) ?_ ?_) | omega | (simp only [szs]; omega) | (simp only [szs] at *; omega))))).mono ?_); rintro e w1 ⟨rfl, rfl⟩)
        refine hK.out _ _ (by ((try dsimp only); (exact hkeep.out _ (by (repeat' (first | (with_reducible first | exact Below.refl _ _ | assumption | refine Below.alloc ?_ ?_ _ | refine Below.drew ?_ | refine below_drewN ?_ _ | refine Below.setCell ?_ ?_ _ | refine below_via (by with_reducible assumption) ?_ ?_) | omega | (simp only [szs]; omega) | (simp only [szs] at *; omega))))))) (fun hHeld => ?_)
        clear hK K
        try simp only [Act.put, List.setIfInBounds_toArray, List.set_cons_zero, List.set_cons_succ]
        refine anyZ_free (i := 8) (oi := ?oi_9) (v := ?v_9) ?hi_9 ?hs_9 ?hf_9 ?hr_9 ?hQ_9 (Or.inl ⟨?hw_9, ?hy_9⟩) ?hrest_9
        case hi_9 => (simp only [List.getElem?_toArray, List.getElem?_cons_succ, List.getElem?_cons_zero]; exact rfl)
        case hs_9 => kernel_rfl
        case hf_9 => kernel_rfl
        case hr_9 => kernel_rfl
        case hQ_9 => exact fun _ _ _ h => h
        case hw_9 => rfl
        case hy_9 => (intro w _; go_simp; try with_reducible rfl)
        try simp only [Act.put, List.setIfInBounds_toArray, List.set_cons_zero, List.set_cons_succ]
        refine anyZ_free (i := 9) (oi := ?oi_10) (v := ?v_10) ?hi_10 ?hs_10 ?hf_10 ?hr_10 ?hQ_10 (Or.inl ⟨?hw_10, ?hy_10⟩) ?hrest_10
        case hi_10 => (simp only [List.getElem?_toArray, List.getElem?_cons_succ, List.getElem?_cons_zero]; exact rfl)
        case hs_10 => kernel_rfl
        case hf_10 => kernel_rfl
        case hr_10 => kernel_rfl
        case hQ_10 => exact fun _ _ _ h => h
        case hw_10 => rfl
        case hy_10 => (intro w _; go_simp; try with_reducible rfl)
        try simp only [Act.put, List.setIfInBounds_toArray, List.set_cons_zero, List.set_cons_succ]
        refine anyZ_ready (rs := [10]) (by kernel_rfl) (by simp) ?_
        refine (AllZ.last (o := ?o_11) ?ho_11 (by rfl) (fun K hK => ?st_11) AllZ.nil)
        case ho_11 => (simp only [List.getElem?_toArray, List.getElem?_cons_succ, List.getElem?_cons_zero]; exact rfl)
        case st_11 =>
          go_simp
          refine hK.out _ _ ?_
          clear hK K
          try simp only [Act.put, List.setIfInBounds_toArray, List.set_cons_zero, List.set_cons_succ]
          refine anyZ_done (by kernel_rfl) ?_ _
          refine NoPanic.normal ?_
          have hs5 : Hid (Sto (((W4.setCell ⟨g, i * 2, none⟩ (.int .i64 q)).setCell ⟨g, i * 2 + 1, none⟩ (.int .u64 (k : Nat))).drew) 61 2 g L.n ((i + 1) * 2) (trmF (fun j => ((S.is (L.V j) : Nat) : Int)) L.K)) := by
            have h1 := (hs4.out.set (by omega) fq.out).set (by omega) fk.out
            rw [show i * 2 + 1 + 1 = (i + 1) * 2 by omega] at h1
            exact h1.on (by (repeat' (first | (with_reducible first | exact Below.refl _ _ | assumption | refine Below.alloc ?_ ?_ _ | refine Below.drew ?_ | refine below_drewN ?_ _ | refine Below.setCell ?_ ?_ _ | refine below_via (by with_reducible assumption) ?_ ?_) | omega | (simp only [szs]; omega) | (simp only [szs] at *; omega))))
          have hB5 : Below w.heap.size w (((W4.setCell ⟨g, i * 2, none⟩ (.int .i64 q)).setCell ⟨g, i * 2 + 1, none⟩ (.int .u64 (k : Nat))).drew) := ((hB4.out.setCell hgw.out _).setCell hgw.out _).drew
          clear hs4 hB4 hkeep c2 he0 he1 fz0 fz1
          generalize (((W4.setCell ⟨g, i * 2, none⟩ (.int .i64 q)).setCell ⟨g, i * 2 + 1, none⟩ (.int .u64 (k : Nat))).drew) = W5 at *
          go_wp2
          go_roundw
          case rel => exact ⟨i + 1, by omega, by go_num, hB5, hs5⟩
          case measure => first | (simp [intOf]; done) | (simp [intOf]; omega)
    · obtain rfl : i = L.n := by omega
      have hlt' : ¬ (L.n : Int) < (L.n : Int) := by omega
      have PO : Hid (Lst.Ok ⟨some ⟨g, 0, none⟩, L.n, L.n, fun j => ((S.is (L.V j) : Nat) : Int), L.K⟩) := ⟨fun i => (by show (-9223372036854775808 : Int) ≤ ((S.is (L.V i) : Nat) : Int); omega), fun i => (by show ((S.is (L.V i) : Nat) : Int) < 9223372036854775808; have := Mk.is_lt hG'.out (L.V i); omega), hL'.out.K1, Nat.le_refl _, (by show L.n ≤ 9223372036854775807; omega)⟩
      have eP : Hid (LEq ⟨some ⟨g, 0, none⟩, L.n, L.n, fun j => ((S.is (L.V j) : Nat) : Int), L.K⟩ L') := LEq.trans (M := S.isL L) ⟨rfl, fun i _ => ⟨rfl, rfl⟩⟩ eL'.out
      have tP : Hid (Lst.At ⟨some ⟨g, 0, none⟩, L.n, L.n, fun j => ((S.is (L.V j) : Nat) : Int), L.K⟩ wr.heap.size wr) := Or.inr ⟨g, 0, rfl, hs.out.lt, hs.out.trms⟩
      have oP : Hid (∀ k, (Lst.val ⟨some ⟨g, 0, none⟩, L.n, L.n, fun j => ((S.is (L.V j) : Nat) : Int), L.K⟩).ownBlock = some k → r k = 0) := fun k hk => hrl.out k (by
        have e : g = k := by simpa [Lst.val, Value.ownBlock] using hk
        have := hg.out; omega)
      have cV := kvalueW r b S hG'.out hn ⟨some ⟨g, 0, none⟩, L.n, L.n, fun j => ((S.is (L.V j) : Nat) : Int), L.K⟩ PO.out L' eP.out wr (h'.out.below hB) tP.out
      have eX : Hid (S.fresh (S.val L') = S.fresh (Ob.toG (valL L' S.n S.v).val)) := by show _ = _; rw [Ob.toG_of_val]; rfl
      have hX : Hid ((valL L' S.n S.v).val < 18446744073709551616) := Ob.G_word _
      have hlin : Hid (S.linear L' = (S.fresh (S.val L')).row L' (just 0) (just S.n)) := rfl
      rw [eX.out] at hlin
      obtain ⟨X, hX2⟩ : ∃ X, Hid ((valL L' S.n S.v).val = X) := ⟨_, rfl⟩
      rw [hX2.out] at cV hlin hX
      have cF := fun W (hW : Below wr.heap.size wr W) => kprivW r b S hn X hX.out W (h'.out.below (below_via hW hB hB.size))
      have cJ0 := konlyW 0 (by decide)
      have cJ1 := konlyW S.n (by omega)
      have q0 : (((0 : Nat) : Int)) = 0 := rfl
      rw [q0] at cJ0
      unfold Lst.val at cV cJ0 cJ1
      clear eX hX2 hs cI q0
      have hB' : Hid (Below w.heap.size w wr) := hB
      go_upto_region 8 with (first | (go_at_call 56; (with_reducible refine cV.mono ?_); rintro e w1 ⟨rfl, b1⟩) | (go_at_call 20; (with_reducible refine (cF _ b1).mono ?_); rintro e w2 ⟨rfl, a2⟩))
      obtain ⟨s, m3, g1, g2, g3⟩ := a2.get
      have k3 : Hid (KeepO (fun k => r k ≠ 0) wr w2) := (KeepO.of_below b1).trans g3 fun _ _ h => h
      have zb1 := b1.size
      have g1' : Hid (∀ k, s k ≠ 0 → r k ≠ 0 ∨ wr.heap.size ≤ k) := fun k hk => (g1 k hk).imp id fun h => Nat.le_trans zb1 h
      have g2' : Hid (∀ k, r k ≠ 0 → s k = r k) := g2
      have m3' : Hid (GMd s w2 b (S.fresh (Ob.toG X))) := m3
      have tP2 : Hid (Lst.At ⟨some ⟨g, 0, none⟩, L.n, L.n, fun j => ((S.is (L.V j) : Nat) : Int), L.K⟩ w2.heap.size w2) := at_keep tP.out k3.out oP.out
      clear a2 m3 g1 g2 g3 b1 zb1 cV cF
      go_upto_region 9 with (first | (go_at_call 52; (with_reducible refine (cJ0 _).mono ?_); rintro e w4 ⟨P0, rfl, o4, n4, e4, t4, b4, _⟩; have n5 : Hid (P0.n ≤ 1000) := (by show _ ≤ _; omega); clear n4) | (go_at_call 52; (with_reducible refine (cJ1 _).mono ?_); rintro e w5 ⟨P1, rfl, o5, n5', e5, t5, b5, _⟩; have n6 : Hid (P1.n ≤ 1000) := (by show _ ≤ _; omega); clear n5'; have m5 : GMd s w5 b (S.fresh (Ob.toG X)) := (m3'.out.below b4).below b5; have cR := krowW s b (S.fresh (Ob.toG X)) hm ⟨some ⟨g, 0, none⟩, L.n, L.n, fun j => ((S.is (L.V j) : Nat) : Int), L.K⟩ P0 P1 PO.out o4 o5 nL n5.out n6.out L' (just 0) (just S.n) eP.out e4 e5 w5 m5 (TrmsAt.to (TrmsAt.to tP2.out b4 (Nat.le_refl _)) b5 (Nat.le_refl _)) (TrmsAt.to t4 b5 (Nat.le_refl _)) t5; unfold Lst.val at cR) | (go_at_call 57; (with_reducible refine cR.mono ?_); rintro e w6 ⟨rfl, a6⟩))
      have hend : Hid (GAf r w w6 b (S.linear L')) := by
        show GAf _ _ _ _ _
        rw [hlin.out]
        exact GAf.of_below hB'.out (GAf.then g1'.out g2'.out k3.out (GAf.of_below b4 (GAf.of_below b5 a6)))
      clear a6 cR
      go_wp2
      go_ret
      exact ⟨by first | rfl | simp, hend.out⟩
end Go.Proofs.Ytdbolfmmlmoiaaa

namespace Go.Proofs.Ytdbolfmmlmoiaaa
open Go.RowKit Go.Proofs
set_option linter.unusedVariables false
set_option linter.unusedSimpArgs false
attribute [local go_sem ↓] Go.wp_at_zero Go.wp_at_succ
theorem Mk.is_self {S : Mk} {v : Nat} (h : v < S.n) : S.is (v : Int) = v := by
  unfold Mk.is
  rw [if_pos ⟨by omega, by omega⟩]
  exact Int.toNat_natCast v
theorem nil_ok : Lst.Ok ⟨none, 0, 0, fun _ => 0, fun _ => 0⟩ := ⟨fun _ => (by show (-9223372036854775808 : Int) ≤ 0; decide), fun _ => (by show (0 : Int) < 9223372036854775808; decide), fun _ => (by show 0 < 18446744073709551616; decide), Nat.le_refl _, (by show 0 ≤ 9223372036854775807; decide)⟩
theorem nil_eq : LEq ⟨none, 0, 0, fun _ => 0, fun _ => 0⟩ (lstOf []) := ⟨rfl, fun i hi => absurd hi (Nat.not_lt_zero _)⟩
set_option maxRecDepth 4000 in
set_option maxHeartbeats 8000000 in
theorem kMulW (r : Nat → Nat) (b : Nat) (S : Mk) (hG : S.Good) (hn : S.n ≤ 100000) (hm : S.m ≤ 100000) (x y : Int) (w : World) (h : GMd r w b S) :
    Calls Try.prog 28 #[.pointer (some ⟨b, 0, none⟩), .int .i64 x, .int .i64 y] w fun e w' => e = .returned (.int .i64 (S.n : Nat)) ∧ GAf r w w' b (S.mulL (just (S.is x)) (just (S.is y))) := by
  have h' : Hid (GMd r w b S) := h
  have hG' : Hid S.Good := hG
  have c1 := fun W (hW : Below w.heap.size w W) => kthereW r b S hG x W (h'.out.below hW)
  have c2 := fun W (hW : Below w.heap.size w W) => kthereW r b S hG y W (h'.out.below hW)
  have hI := Mk.is_lt hG x
  have hJ := Mk.is_lt hG y
  obtain ⟨I, hIe⟩ : ∃ I, Hid (S.is x = I) := ⟨_, rfl⟩
  obtain ⟨J, hJe⟩ : ∃ J, Hid (S.is y = J) := ⟨_, rfl⟩
  rw [hIe.out] at c1 hI ⊢
  rw [hJe.out] at c2 hJ ⊢
  have cI := konlyW I (by omega)
  have cJ := konlyW J (by omega)
  unfold Lst.val at cI cJ
  clear h hG hIe hJe
  go_enter Try.func28, Try.ntmps28
  go_wp2_with (first | (go_at_call 43; first | ((with_reducible refine (c1 _ (by (repeat' (first | (with_reducible first | exact Below.refl _ _ | assumption | refine Below.alloc ?_ ?_ _ | refine Below.drew ?_ | refine below_drewN ?_ _ | refine Below.setCell ?_ ?_ _ | refine below_via (by with_reducible assumption) ?_ ?_) | omega | (simp only [szs]; omega) | (simp only [szs] at *; omega))))).mono ?_); rintro e w' ⟨rfl, rfl⟩) | ((with_reducible refine (c2 _ (by (repeat' (first | (with_reducible first | exact Below.refl _ _ | assumption | refine Below.alloc ?_ ?_ _ | refine Below.drew ?_ | refine below_drewN ?_ _ | refine Below.setCell ?_ ?_ _ | refine below_via (by with_reducible assumption) ?_ ?_) | omega | (simp only [szs]; omega) | (simp only [szs] at *; omega))))).mono ?_); rintro e w' ⟨rfl, rfl⟩)) | (go_at_call 52; first | ((with_reducible refine (cI _).mono ?_); rintro e w1 ⟨P0, rfl, o1, n1, e1, t1, b1, f1⟩; have n1' : Hid (P0.n ≤ 1000) := (by show _ ≤ _; omega); have f1' : Hid (∀ k, P0.val.ownBlock = some k → w.heap.size ≤ k) := f1; clear n1 f1) | ((with_reducible refine (cJ _).mono ?_); rintro e w2 ⟨P1, rfl, o2, n2, e2, t2, b2, f2⟩; have n2' : Hid (P1.n ≤ 1000) := (by show _ ≤ _; omega); clear n2; have z1 := b1.size; have hB2 : Hid (Below w.heap.size w w2) := below_via b2 b1 b1.size; have cP := kprodW r b S hG'.out hn hm P0 P1 o1 o2 n1'.out n2'.out (just I) (just J) e1 e2 w2 (h'.out.below hB2.out) (TrmsAt.to t1 b2 (Nat.le_refl _)) t2 (fun k hk => h'.out.zero k (f1'.out k hk)) (fun k hk => h'.out.zero k (by have := f2 k hk; omega)); unfold Lst.val at cP; clear f2)) | (go_at_call 51; (with_reducible refine cP.mono ?_); rintro e w3 ⟨rfl, a3⟩; have hend : Hid (GAf r w w3 b (S.mulL (just I) (just J))) := GAf.of_below hB2.out a3; clear a3 cP))
  go_ret
  exact ⟨by first | rfl | simp, hend.out⟩
set_option maxRecDepth 4000 in
set_option maxHeartbeats 8000000 in
theorem kSameW (r : Nat → Nat) (b : Nat) (S : Mk) (hG : S.Good) (hn : S.n ≤ 100000) (hm : S.m ≤ 100000) (x y : Int) (w : World) (h : GMd r w b S) :
    Calls Try.prog 41 #[.pointer (some ⟨b, 0, none⟩), .int .i64 x, .int .i64 y] w fun e w' => e = .returned (.tuple #[]) ∧ GAf r w w' b (S.same (S.is x) (S.is y)) := by
  have h' : Hid (GMd r w b S) := h
  have c1 := fun W (hW : Below w.heap.size w W) => kthereW r b S hG x W (h'.out.below hW)
  have c2 := fun W (hW : Below w.heap.size w W) => kthereW r b S hG y W (h'.out.below hW)
  have hI := Mk.is_lt hG x
  have hJ := Mk.is_lt hG y
  obtain ⟨I, hIe⟩ : ∃ I, Hid (S.is x = I) := ⟨_, rfl⟩
  obtain ⟨J, hJe⟩ : ∃ J, Hid (S.is y = J) := ⟨_, rfl⟩
  rw [hIe.out] at c1 hI ⊢
  rw [hJe.out] at c2 hJ ⊢
  have cL := klessW I J (by omega) (by omega)
  have c0 := konlyW 0 (by decide)
  have q0 : (((0 : Nat) : Int)) = 0 := rfl
  rw [q0] at c0
  unfold Lst.val at cL c0
  clear h hG hIe hJe q0
  go_enter Try.func41, Try.ntmps41
  go_wp2_with (first | (go_at_call 43; first | ((with_reducible refine (c1 _ (by (repeat' (first | (with_reducible first | exact Below.refl _ _ | assumption | refine Below.alloc ?_ ?_ _ | refine Below.drew ?_ | refine below_drewN ?_ _ | refine Below.setCell ?_ ?_ _ | refine below_via (by with_reducible assumption) ?_ ?_) | omega | (simp only [szs]; omega) | (simp only [szs] at *; omega))))).mono ?_); rintro e w' ⟨rfl, rfl⟩) | ((with_reducible refine (c2 _ (by (repeat' (first | (with_reducible first | exact Below.refl _ _ | assumption | refine Below.alloc ?_ ?_ _ | refine Below.drew ?_ | refine below_drewN ?_ _ | refine Below.setCell ?_ ?_ _ | refine below_via (by with_reducible assumption) ?_ ?_) | omega | (simp only [szs]; omega) | (simp only [szs] at *; omega))))).mono ?_); rintro e w' ⟨rfl, rfl⟩)) | (go_at_call 60; ((with_reducible refine (cL _).mono ?_); rintro e w1 ⟨P0, rfl, o1, n1, e1, t1, b1, _⟩; have n1' : Hid (P0.n ≤ 1000) := (by show _ ≤ _; omega); clear n1)) | (go_at_call 52; ((with_reducible refine (c0 _).mono ?_); rintro e w2 ⟨P1, rfl, o2, n2, e2, t2, b2, _⟩; have n2' : Hid (P1.n ≤ 1000) := (by show _ ≤ _; omega); clear n2; have z1 := b1.size; have hB2 : Hid (Below w.heap.size w w2) := below_via b2 b1 b1.size; have cR := krowW r b S hm P0 P1 ⟨none, 0, 0, fun _ => 0, fun _ => 0⟩ o1 o2 nil_ok n1'.out n2'.out (by show 0 ≤ 1000; decide) (less I J) (just 0) (lstOf []) e1 e2 nil_eq w2 (h'.out.below hB2.out) (TrmsAt.to t1 b2 (Nat.le_refl _)) t2 (Or.inl rfl); unfold Lst.val at cR)) | (go_at_call 57; (with_reducible refine cR.mono ?_); rintro e w3 ⟨rfl, a3⟩; have hend : Hid (GAf r w w3 b (S.same I J)) := GAf.of_below hB2.out a3; clear a3 cR))
  go_end0
  exact ⟨rfl, hend.out⟩
set_option maxRecDepth 8000 in
set_option maxHeartbeats 16000000 in
theorem kChooseW (r : Nat → Nat) (b : Nat) (S : Mk) (hG : S.Good) (hn : S.n ≤ 100000) (hm : S.m ≤ 100000) (x y z : Int) (w : World) (h : GMd r w b S) :
    Calls Try.prog 36 #[.pointer (some ⟨b, 0, none⟩), .int .i64 x, .int .i64 y, .int .i64 z] w fun e w' => e = .returned (.int .i64 (S.n : Nat)) ∧ GAf r w w' b (S.choose (S.is x) (S.is y) (S.is z)) := by
  have h' : Hid (GMd r w b S) := h
  have hG' : Hid S.Good := hG
  have c1 := kthereW r b S hG x w h
  have c2 := kthereW r b S hG y w h
  have c3 := kthereW r b S hG z w h
  have hI := Mk.is_lt hG x
  have hJ := Mk.is_lt hG y
  have hK := Mk.is_lt hG z
  obtain ⟨I, hIe⟩ : ∃ I, Hid (S.is x = I) := ⟨_, rfl⟩
  obtain ⟨J, hJe⟩ : ∃ J, Hid (S.is y = J) := ⟨_, rfl⟩
  obtain ⟨K, hKe⟩ : ∃ K, Hid (S.is z = K) := ⟨_, rfl⟩
  rw [hIe.out] at c1 hI ⊢
  rw [hJe.out] at c2 hJ ⊢
  rw [hKe.out] at c3 hK ⊢
  have cVI := kValueW r b S hG (I : Int) w h
  rw [Mk.is_self hI] at cVI
  have cVK := fun W (hW : Below w.heap.size w W) => kValueW r b S hG (K : Int) W (h'.out.below hW)
  rw [Mk.is_self hK] at cVK
  have cL := klessW J K (by omega) (by omega)
  have cI := konlyW I (by omega)
  have cE := klessW S.n K (by omega) (by omega)
  have vL : (valL (less J K) S.n S.v) = Ob.toG (S.v J) - Ob.toG (S.v K) := val_less hJ hK
  have hvI := hG.lt I
  have hvK := hG.lt K
  have eC : Hid (S.choose I J K = (S.fresh (Ob.toG (S.v K) + Ob.toG (S.v I) * (Ob.toG (S.v J) - Ob.toG (S.v K)))).row (just I) (less J K) (less S.n K)) := rfl
  obtain ⟨p, hp⟩ : ∃ p, Hid (S.v I = p) := ⟨_, rfl⟩
  obtain ⟨q, hq⟩ : ∃ q, Hid (S.v K = q) := ⟨_, rfl⟩
  rw [← vL, hp.out, hq.out] at eC
  rw [hp.out] at cVI hvI
  rw [hq.out] at cVK hvK
  have cM := kmodMul p (valL (less J K) S.n S.v).val (by omega) (Ob.G_word _)
  rw [Ob.toG_of_val] at cM
  have cA := kmodAdd q (Ob.toG p * valL (less J K) S.n S.v).val (by omega) (Ob.G_word _)
  rw [Ob.toG_of_val] at cA
  have eX : Hid (S.fresh (Ob.toG q + Ob.toG p * valL (less J K) S.n S.v) = S.fresh (Ob.toG (Ob.toG q + Ob.toG p * valL (less J K) S.n S.v).val)) := by show _ = _; rw [Ob.toG_of_val]
  rw [eX.out] at eC
  have hX : Hid ((Ob.toG q + Ob.toG p * valL (less J K) S.n S.v).val < 18446744073709551616) := Ob.G_word _
  have cV := fun (P : Lst) (o : P.Ok) (e : LEq P (less J K)) W (hW : Below w.heap.size w W) (t : P.At W.heap.size W) => kvalueW r b S hG hn P o (less J K) e W (h'.out.below hW) t
  obtain ⟨X, hXe⟩ : ∃ X, Hid ((Ob.toG q + Ob.toG p * valL (less J K) S.n S.v).val = X) := ⟨_, rfl⟩
  obtain ⟨Y, hYe⟩ : ∃ Y, Hid ((Ob.toG p * valL (less J K) S.n S.v).val = Y) := ⟨_, rfl⟩
  obtain ⟨Z, hZe⟩ : ∃ Z, Hid ((valL (less J K) S.n S.v).val = Z) := ⟨_, rfl⟩
  rw [hXe.out] at cA hX eC
  rw [hYe.out] at cM cA
  rw [hZe.out] at cM cV
  have cF := fun W (hW : Below w.heap.size w W) => kprivW r b S hn X hX.out W (h'.out.below hW)
  unfold Lst.val at cL cI cE
  have cV' : Hid (∀ (P : Lst) (o : P.Ok) (e : LEq P (less J K)) W (hW : Below w.heap.size w W) (t : P.At W.heap.size W), Calls Try.prog 56 #[.pointer (some ⟨b, 0, none⟩), P.val] W fun e w' => e = .returned (.int .u64 (Z : Nat)) ∧ Below W.heap.size W w') := cV
  clear h hG hIe hJe hKe vL hp hq eX hX hXe hYe hZe cV
  go_enter Try.func36, Try.ntmps36
  go_upto_region 2 with (go_at_call 43; first | ((with_reducible refine c1.mono ?_); rintro e w' ⟨rfl, rfl⟩) | ((with_reducible refine c2.mono ?_); rintro e w' ⟨rfl, rfl⟩) | ((with_reducible refine c3.mono ?_); rintro e w' ⟨rfl, rfl⟩))
  go_upto_region 3 with (first | (go_at_call 13; (with_reducible refine cVI.mono ?_); rintro e w1 ⟨rfl, b1⟩) | (go_at_call 60; (with_reducible refine (cL _).mono ?_); rintro e w2 ⟨P0, rfl, o1, n1, e1, t1, b2, _⟩; have hB2 : Below w.heap.size w w2 := below_via b2 b1 b1.size; have cv := cV'.out P0 o1 e1 w2 hB2 t1; unfold Lst.val at cv; clear o1 n1 e1 t1) | (go_at_call 56; (with_reducible refine cv.mono ?_); rintro e w3 ⟨rfl, b3⟩; have hB3 : Below w.heap.size w w3 := below_via b3 hB2 hB2.size; clear cv) | (go_at_call 59; (with_reducible refine (cM _).mono ?_); rintro e w' ⟨rfl, nd, rfl⟩; have hB4 : Hid (Below w.heap.size w (w3.drewN nd)) := below_drewN hB3 nd))
  clear b1 b2 hB2 b3 hB3 cM cV' cVI c1 c2 c3
  generalize w3.drewN nd = W4 at *
  go_upto_region 4 with (first | (go_at_call 13; (with_reducible refine (cVK _ hB4.out).mono ?_); rintro e w5 ⟨rfl, b5⟩; have hB5 : Below w.heap.size w w5 := below_via b5 hB4.out hB4.out.size) | (go_at_call 61; (with_reducible refine (cA _).mono ?_); rintro e w' ⟨rfl, rfl⟩) | (go_at_call 20; (with_reducible refine (cF _ hB5).mono ?_); rintro e w6 ⟨rfl, a6⟩))
  obtain ⟨s, m3, g1, g2, g3⟩ := (GAf.of_below hB5 a6).get
  have m3' : Hid (GMd s w6 b (S.fresh (Ob.toG X))) := m3
  have g1' : Hid (∀ k, s k ≠ 0 → r k ≠ 0 ∨ w.heap.size ≤ k) := g1
  have g2' : Hid (∀ k, r k ≠ 0 → s k = r k) := g2
  have g3' : Hid (KeepO (fun k => r k ≠ 0) w w6) := g3
  clear a6 m3 g1 g2 g3 b5 hB5 hB4 cA cF cVK
  go_upto_region 5 with (first | (go_at_call 52; (with_reducible refine (cI _).mono ?_); rintro e w7 ⟨P1, rfl, o7, n7, e7, t7, b7, _⟩; have n7' : Hid (P1.n ≤ 1000) := (by show _ ≤ _; omega); clear n7) | (go_at_call 60; first | ((with_reducible refine (cL _).mono ?_); rintro e w8 ⟨P2, rfl, o8, n8, e8, t8, b8, _⟩; have n8' : Hid (P2.n ≤ 1000) := (by show _ ≤ _; omega); clear n8) | ((with_reducible refine (cE _).mono ?_); rintro e w9 ⟨P3, rfl, o9, n9, e9, t9, b9, _⟩; have n9' : Hid (P3.n ≤ 1000) := (by show _ ≤ _; omega); clear n9; have cR := krowW s b (S.fresh (Ob.toG X)) hm P1 P2 P3 o7 o8 o9 n7'.out n8'.out n9'.out (just I) (less J K) (less S.n K) e7 e8 e9 w9 (((m3'.out.below b7).below b8).below b9) (TrmsAt.to (TrmsAt.to t7 b8 (Nat.le_refl _)) b9 (Nat.le_refl _)) (TrmsAt.to t8 b9 (Nat.le_refl _)) t9; unfold Lst.val at cR)) | (go_at_call 57; (with_reducible refine cR.mono ?_); rintro e w10 ⟨rfl, a10⟩))
  have hend : Hid (GAf r w w10 b (S.choose I J K)) := by
    show GAf _ _ _ _ _
    rw [eC.out]
    exact GAf.then g1'.out g2'.out g3'.out (GAf.of_below b7 (GAf.of_below b8 (GAf.of_below b9 a10)))
  clear a10 cR
  go_wp2
  go_ret
  exact ⟨by first | rfl | simp, hend.out⟩
end Go.Proofs.Ytdbolfmmlmoiaaa

namespace Go.Proofs.Ytdbolfmmlmoiaaa
open Go.RowKit Go.Proofs
set_option linter.unusedVariables false
set_option linter.unusedSimpArgs false
attribute [local go_sem ↓] Go.wp_at_zero Go.wp_at_succ
theorem sev_powN (i : Nat) (hi : i < 3) : Ob.pow Ob.RE 7 (i + 1) = sevN i := by
  rw [Ob.pow_yes Ob.modRE]
  obtain rfl | rfl | rfl : i = 0 ∨ i = 1 ∨ i = 2 := by omega
  · decide +kernel
  · decide +kernel
  · decide +kernel
theorem kpowW (i : Nat) (hi : i < 3) (w : World) : Calls Try.prog 50 #[.int .u64 288230376287764481, .int .u64 7, .int .u64 ((i + 1 : Nat) : Int)] w fun e w' => e = .returned (.int .u64 (sevN i : Nat)) ∧ ∃ n, w' = w.drewN n := by
  have c0 := pow_any Ob.RE 7 (i + 1) w (by decide) (by decide) (by omega)
  rw [sev_powN i hi] at c0
  exact c0
set_option maxRecDepth 4000 in
set_option maxHeartbeats 8000000 in
theorem kTwoW (r : Nat → Nat) (b : Nat) (S : Mk) (hG : S.Good) (hn : S.n ≤ 90000) (hm : S.m ≤ 90000) (ax cx : Int) (w : World) (h : GMd r w b S) :
    Calls Try.prog 21 #[.pointer (some ⟨b, 0, none⟩), .int .i64 ax, .int .i64 cx] w fun e w' => e = .returned (.int .i64 ((S.n + 6 : Nat) : Int)) ∧ GAf r w w' b (S.two (S.is ax) (S.is cx)) := by
  have hG' : Hid S.Good := hG
  have d1 := kthereW r b S hG ax w h
  have d2 := kthereW r b S hG cx w h
  have ha := Mk.is_lt hG ax
  have hc := Mk.is_lt hG cx
  obtain ⟨a, hae⟩ : ∃ a, Hid (S.is ax = a) := ⟨_, rfl⟩
  obtain ⟨c, hce⟩ : ∃ c, Hid (S.is cx = c) := ⟨_, rfl⟩
  rw [hae.out] at d1 ha ⊢
  rw [hce.out] at d2 hc ⊢
  have hstart : Hid (GAf r w w b (S.rounds a c 0)) := GAf.same h (Below.refl _ _)
  have hm' : Hid (∀ i, i ≤ 3 → (S.rounds a c i).m ≤ 90006) := fun i hi => by have := (Chain.rounds ha hc hG.n1 i).m; omega
  clear h hG hae hce
  go_enter Try.func21, Try.ntmps21
  go_upto_region 2 with (go_at_call 43; first | ((with_reducible refine d1.mono ?_); rintro e w' ⟨rfl, rfl⟩) | ((with_reducible refine d2.mono ?_); rintro e w' ⟨rfl, rfl⟩))
  clear d1 d2
  go_wp2
  go_loopw [7, 17] (fun sx si wr => ∃ (i X : Nat), i ≤ 3 ∧ sx = .int .i64 (X : Nat) ∧ si = .int .u64 i ∧ Hid (X = xN S.n c i) ∧ Hid (GAf r w wr b (S.rounds a c i))) (fun _ si _ => 3 - (intOf si).toNat)
  case atStart => exact ⟨0, c, by omega, rfl, rfl, rfl, hstart⟩
  case round =>
    clear hstart
    obtain ⟨i, X, hi, rfl, rfl, hX, hA⟩ := hrel
    have hxlt : X < (S.rounds a c i).n := by rw [hX.out]; exact rounds_x hc
    have hnn := Mk.rounds_n S a c i
    have halt : a < (S.rounds a c i).n := by omega
    obtain ⟨s, m1, g1, g2, g3⟩ := hA.out
    have g1' : Hid (∀ k, s k ≠ 0 → r k ≠ 0 ∨ w.heap.size ≤ k) := g1
    have g2' : Hid (∀ k, r k ≠ 0 → s k = r k) := g2
    have g3' : Hid (KeepO (fun k => r k ≠ 0) w wr) := g3
    have m1' : Hid (GMd s wr b (S.rounds a c i)) := m1
    have gG : Hid (S.rounds a c i).Good := Mk.Good.rounds hG'.out ha hc i
    clear m1 g1 g2 g3 hA
    by_cases hlt : i < 3
    · have hlt' : (i : Int) < 3 := by omega
      have cM := kpowW i hlt
      obtain ⟨i', hi', hwi⟩ : ∃ i' : Nat, Hid (i + 1 = i') ∧ IntKind.u64.wrap ((i : Int) + 1) = (i' : Int) := ⟨i + 1, rfl, by rw [IntKind.wrap_u64]; omega⟩
      rw [hi'.out] at cM
      have hq := sevN_lt i
      have hX2 : Hid ((S.rounds a c i).n + 1 = xN S.n c (i + 1)) := by show _ = (if i + 1 = 0 then c else S.n + 2 * (i + 1) - 1); rw [if_neg (by omega)]; omega
      have eR : Hid (S.rounds a c (i + 1) = ((S.rounds a c i).mulL (rndL X a i) (rndL X a i)).mulL (just (S.rounds a c i).n) (rndL X a i)) := by rw [hX.out]; rfl
      have inL : Hid ((rndL X a i).In (S.rounds a c i).n) := rndL_in hxlt halt
      obtain ⟨q, hqq⟩ : ∃ q, Hid (sevN i = q) := ⟨_, rfl⟩
      have eL : Hid (∀ g, LEq (l3 g (X : Nat) (a : Nat) 0 1 1 q) (rndL X a i)) := fun g => by rw [← hqq.out]; exact l3_eq
      rw [hqq.out] at cM hq
      obtain ⟨S1, hS1⟩ : ∃ S1, Hid (S.rounds a c i = S1) := ⟨_, rfl⟩
      obtain ⟨M, hM⟩ : ∃ M, Hid (rndL X a i = M) := ⟨_, rfl⟩
      have hm1 := hm'.out i hi
      rw [hM.out] at eR inL eL
      rw [hS1.out] at eR inL m1' gG hX2 hnn hxlt halt hm1
      have hx63 : X < 9223372036854775808 := by omega
      have ha63 : a < 9223372036854775808 := by omega
      have n1 : S1.n ≤ 90006 := by omega
      have hnn' : Hid (S1.n = S.n + 2 * i) := hnn
      clear hnn
      have oL : Hid (∀ g, (l3 g (X : Nat) (a : Nat) 0 1 1 q).Ok) := fun g => l3_ok (by omega) (by omega) (by omega) (by decide) (by decide) hq
      clear hqq hS1 hM hX hq hxlt halt hG' hm'
      go_upto_region 7 with (first | (go_at_call 50; first | (with_reducible refine (cM _).mono ?_; rintro e w' ⟨rfl, nd, rfl⟩)))
      have m1d : Hid (GMd s (wr.drewN nd) b S1) := m1'.out.below (below_drewN (Below.refl _ _) nd)
      have g3d : Hid (KeepO (fun k => r k ≠ 0) w (wr.drewN nd)) := g3'.out.trans (O' := fun _ => False) (KeepO.of_below (below_drewN (Below.refl _ _) nd)) fun _ _ h => h.elim
      rw [show wr.heap.size = (wr.drewN nd).heap.size from rfl]
      clear m1' g3' hwi hi' cM
      generalize wr.drewN nd = wd at *
      have tL : Hid ((l3 wd.heap.size (X : Nat) (a : Nat) 0 1 1 q).At (wd.alloc (.cells #[.int .i64 (X : Nat), .int .u64 1, .int .i64 (a : Nat), .int .u64 1, .int .i64 0, .int .u64 (q : Nat)] 61)).heap.size (wd.alloc (.cells #[.int .i64 (X : Nat), .int .u64 1, .int .i64 (a : Nat), .int .u64 1, .int .i64 0, .int .u64 (q : Nat)] 61))) := l3_at
      have m2 : Hid (GMd s (wd.alloc (.cells #[.int .i64 (X : Nat), .int .u64 1, .int .i64 (a : Nat), .int .u64 1, .int .i64 0, .int .u64 (q : Nat)] 61)) b S1) := m1d.out.below ((Below.refl _ _).alloc (Nat.le_refl _) _)
      have k2 : Hid (KeepO (fun k => r k ≠ 0) w (wd.alloc (.cells #[.int .i64 (X : Nat), .int .u64 1, .int .i64 (a : Nat), .int .u64 1, .int .i64 0, .int .u64 (q : Nat)] 61))) := g3d.out.trans (O' := fun _ => False) (KeepO.of_below ((Below.refl _ _).alloc (Nat.le_refl _) _)) fun _ _ h => h.elim
      have oB : Hid (∀ k, (Lst.val (l3 wd.heap.size (X : Nat) (a : Nat) 0 1 1 q)).ownBlock = some k → s k = 0 ∧ k < (wd.alloc (.cells #[.int .i64 (X : Nat), .int .u64 1, .int .i64 (a : Nat), .int .u64 1, .int .i64 0, .int .u64 (q : Nat)] 61)).heap.size) := fun k hk => by
        have e : wd.heap.size = k := by simpa [Lst.val, l3, Value.ownBlock] using hk
        exact ⟨m1d.out.zero k (by omega), by simp only [szs]; omega⟩
      have oL2 := oL.out wd.heap.size
      have eL2 := eL.out wd.heap.size
      generalize hLg : l3 wd.heap.size (X : Nat) (a : Nat) 0 1 1 q = L at *
      have hLv : L.val = .slice (some ⟨wd.heap.size, 0, none⟩) 3 3 := by rw [← hLg]; rfl
      have nL : L.n ≤ 1000 := by rw [← hLg]; show 3 ≤ 1000; decide
      have oL3 : Hid L.Ok := oL2
      have eL3 : Hid (LEq L M) := eL2
      have nL3 : Hid (L.n ≤ 1000) := nL
      generalize (wd.alloc (.cells #[.int .i64 (X : Nat), .int .u64 1, .int .i64 (a : Nat), .int .u64 1, .int .i64 0, .int .u64 (q : Nat)] 61)) = W1 at *
      generalize wd.heap.size = g at *
      clear hLg oL2 eL2 nL oL eL g3d m1d
      have c1 := kprodW s b S1 gG.out (by omega) (by omega) L L oL3.out oL3.out nL3.out nL3.out M M eL3.out eL3.out W1 m2.out tL.out tL.out (fun k hk => (oB.out k hk).1) (fun k hk => (oB.out k hk).1)
      have hLv' : Hid (L.val = .slice (some ⟨g, 0, none⟩) 3 3) := hLv
      rw [hLv] at c1
      clear hLv
      go_upto_region 8 with (first | (go_at_call 51
                                      (with_reducible refine c1.mono ?_)
                                      rintro e w2 ⟨rfl, a2⟩
                                      obtain ⟨s2, m3, h1, h2, h3⟩ := a2.get
                                      clear c1 a2
                                      have m3' : Hid (GMd s2 w2 b (S1.mulL M M)) := m3
                                      have h1' : Hid (∀ k, s2 k ≠ 0 → s k ≠ 0 ∨ W1.heap.size ≤ k) := h1
                                      have tL2 : Hid (L.At w2.heap.size w2) := at_keep tL.out h3 fun k hk => (oB.out k hk).1
                                      have oB2 : Hid (∀ k, L.val.ownBlock = some k → s2 k = 0) := fun k hk => Decidable.byContradiction fun hh => by
                                        rcases h1 k hh with h | h
                                        · exact h (oB.out k hk).1
                                        · have := (oB.out k hk).2; omega
                                      have zk2 := k2.out.size
                                      have j1 : Hid (∀ k, s2 k ≠ 0 → r k ≠ 0 ∨ w.heap.size ≤ k) := fun k hk => by
                                        rcases h1 k hk with h | h
                                        · exact g1'.out k h
                                        · exact Or.inr (by omega)
                                      have j2 : Hid (∀ k, r k ≠ 0 → s2 k = r k) := fun k hk => by
                                        have e := g2'.out k hk
                                        exact (h2 k (by rw [e]; exact hk)).trans e
                                      have j3 : Hid (KeepO (fun k => r k ≠ 0) w w2) := k2.out.trans h3 fun i hi h => by
                                        rcases g1'.out i h with h | h
                                        · exact h
                                        · omega
                                      have gG2 : Hid (S1.mulL M M).Good := gG.out.mulL inL.out inL.out
                                      clear m3 h1 h2 h3 tL oB m2 k2 g1' g2' gG zk2 h1'
                                      have cJ := konlyW S1.n (by omega)
                                      unfold Lst.val at cJ
                                      have n2 : (S1.mulL M M).n ≤ 100000 := by show S1.n + 1 ≤ 100000; omega
                                      have hm2 : (S1.mulL M M).m ≤ 100000 := by show S1.m + 1 ≤ 100000; omega
                                      have eR3 : Hid (S.rounds a c (i + 1) = (S1.mulL M M).mulL (just S1.n) M) := eR
                                      have q1 : Hid ((S1.mulL M M).n = S1.n + 1) := rfl
                                      generalize S1.mulL M M = S2 at *
                                      have hX3 : Hid (S2.n = xN S.n c (i + 1)) := q1.out.trans hX2.out
                                      clear q1 hX2 eR
                                      have cmul := fun (P0 : Lst) (o4 : P0.Ok) (n5 : P0.n ≤ 1000) (e4 : LEq P0 (just S1.n)) (w4 : World) (b4 : Below w2.heap.size w2 w4) (t4 : P0.At w4.heap.size w4) (f4 : ∀ k, P0.val.ownBlock = some k → w2.heap.size ≤ k) =>
                                        kprodW s2 b S2 gG2.out n2 hm2 P0 L o4 oL3.out n5 nL3.out (just S1.n) M e4 eL3.out w4 (m3'.out.below b4) t4 (TrmsAt.to tL2.out b4 (Nat.le_refl _)) (fun k hk => m3'.out.zero k (f4 k hk)) oB2.out
                                      rw [hLv'.out] at cmul
                                      have cmul' : Hid (∀ (P0 : Lst) (o4 : P0.Ok) (n5 : P0.n ≤ 1000) (e4 : LEq P0 (just S1.n)) (w4 : World) (b4 : Below w2.heap.size w2 w4) (t4 : P0.At w4.heap.size w4) (f4 : ∀ k, P0.val.ownBlock = some k → w2.heap.size ≤ k), Calls Try.prog 51 #[.pointer (some ⟨b, 0, none⟩), .slice P0.ad P0.n P0.c, .slice (some ⟨g, 0, none⟩) 3 3] w4 fun e w' => e = .returned (.int .i64 (S2.n : Nat)) ∧ GAf s2 w4 w' b (S2.mulL (just S1.n) M)) := cmul
                                      clear cmul
                                      have hi' : i ≤ 3 := hi
                                      clear n1 hm1 n2 hm2 hm hn hi) | (go_at_call 52; (with_reducible refine (cJ _).mono ?_); rintro e w4 ⟨P0, rfl, o4, n4, e4, t4, b4, f4⟩; have n5 : Hid (P0.n ≤ 1000) := (by show _ ≤ _; omega); have f5 : Hid (∀ k, P0.val.ownBlock = some k → w2.heap.size ≤ k) := f4; clear n4 f4) | (go_at_call 51; (with_reducible refine (cmul'.out P0 o4 n5.out e4 _ b4 t4 f5.out).mono ?_); rintro e w5 ⟨rfl, a5⟩))
      have hend : Hid (GAf r w w5 b (S.rounds a c (i + 1))) := by
        show GAf r w w5 b (S.rounds a c (i + 1))
        rw [eR3.out]
        exact GAf.then j1.out j2.out j3.out (GAf.of_below b4 a5)
      clear a5
      go_wp2
      go_roundw
      case rel => exact ⟨i + 1, S2.n, by omega, by first | rfl | trivial, by go_num, hX3, hend⟩
      case measure => first | (simp [intOf]; done) | (simp [intOf]; omega)
    · obtain rfl : i = 3 := by omega
      have hlt' : ¬ ((3 : Int) < 3) := by omega
      have hXe : X = S.n + 5 := hX.out
      have eT : Hid (S.two a c = (S.rounds a c 3).linear (endL X a c)) := by show _ = _; rw [hXe]; rfl
      have hclt : c < (S.rounds a c 3).n := by omega
      have inL : Hid ((endL X a c).In (S.rounds a c 3).n) := endL_in hxlt halt hclt
      have hm3 := hm'.out 3 (by omega)
      have hrv : Hid (((S.rounds a c 3).n : Nat) = S.n + 6) := by show _ = _; omega
      have tL : Hid ((l3 wr.heap.size (X : Nat) (a : Nat) (c : Nat) 1 2 1).At (wr.alloc (.cells #[.int .i64 (X : Nat), .int .u64 1, .int .i64 (a : Nat), .int .u64 2, .int .i64 (c : Nat), .int .u64 1] 61)).heap.size (wr.alloc (.cells #[.int .i64 (X : Nat), .int .u64 1, .int .i64 (a : Nat), .int .u64 2, .int .i64 (c : Nat), .int .u64 1] 61))) := l3_at
      have oL : Hid ((l3 wr.heap.size (X : Nat) (a : Nat) (c : Nat) 1 2 1).Ok) := l3_ok (by omega) (by omega) (by omega) (by decide) (by decide) (by decide)
      have eL : LEq (l3 wr.heap.size (X : Nat) (a : Nat) (c : Nat) 1 2 1) (endL X a c) := l3_eq
      have inL2 : (l3 wr.heap.size (X : Nat) (a : Nat) (c : Nat) 1 2 1).In (S.rounds a c 3).n := fun i hi => by
        rw [(eL.2 i hi).1]
        exact inL.out i hi
      have hb1 : Below wr.heap.size wr (wr.alloc (.cells #[.int .i64 (X : Nat), .int .u64 1, .int .i64 (a : Nat), .int .u64 2, .int .i64 (c : Nat), .int .u64 1] 61)) := (Below.refl _ _).alloc (Nat.le_refl _) _
      have cL := klinearW s b (S.rounds a c 3) gG.out (by omega) (by omega) _ oL.out (by show 3 ≤ 1000; decide) (endL X a c) ((Mk.isL_id inL2).trans eL) _ (m1'.out.below hb1) tL.out
      have cL' : Calls Try.prog 30 #[.pointer (some ⟨b, 0, none⟩), .slice (some ⟨wr.heap.size, 0, none⟩) 3 3] (wr.alloc (.cells #[.int .i64 (X : Nat), .int .u64 1, .int .i64 (a : Nat), .int .u64 2, .int .i64 (c : Nat), .int .u64 1] 61)) fun e w' => e = .returned (.int .i64 ((S.n + 6 : Nat) : Int)) ∧ GAf s (wr.alloc (.cells #[.int .i64 (X : Nat), .int .u64 1, .int .i64 (a : Nat), .int .u64 2, .int .i64 (c : Nat), .int .u64 1] 61)) w' b (S.two a c) := by
        rw [eT.out, ← hrv.out]
        exact cL
      have hb1' : Hid (Below wr.heap.size wr (wr.alloc (.cells #[.int .i64 (X : Nat), .int .u64 1, .int .i64 (a : Nat), .int .u64 2, .int .i64 (c : Nat), .int .u64 1] 61))) := hb1
      clear cL tL oL eL inL2 inL hb1 hXe hX hnn hm3 hxlt halt hclt hrv eT gG m1' hG' hm'
      go_wp2_with (go_at_call 30; (with_reducible refine cL'.mono ?_); rintro e w5 ⟨rfl, a5⟩; have hend : Hid (GAf r w w5 b (S.two a c)) := GAf.then g1'.out g2'.out g3'.out (GAf.of_below hb1'.out a5); clear a5)
      go_ret
      exact ⟨by simp, hend.out⟩
end Go.Proofs.Ytdbolfmmlmoiaaa
