/-
  Joined texts: The walk of package gadget: bits. The walks of package gadget: a new maker; the hash of many. The walk of package gadget: what was made is told; the library's Clone of terms, of words. The walk of package gadget: what was made is told. What package gadget's calls answer.
-/
import Derived.Test.YtdbolfmmlmoiaaaJ8
import Derived.Laws.ResultCell
import Derived.Test.YtdbolfmmlmoiaaaJ6

namespace Go.Proofs.Ytdbolfmmlmoiaaa
open Go.RowKit Go.Proofs
set_option linter.unusedVariables false
set_option linter.unusedSimpArgs false
attribute [local go_sem ↓] Go.wp_at_zero Go.wp_at_succ
theorem kshr (v q : Nat) : ((v / 2 ^ q : Nat) : Int) = (v : Int) / 2 ^ q := by simp [Int.natCast_ediv]
theorem kbitAt (v i : Nat) (hv : v < 18446744073709551616) : bits .and .u64 ((v : Int) / 2 ^ i) 1 = ((bitAt v i : Nat) : Int) := by
  rw [← kshr]
  exact and_one _ (Nat.lt_of_le_of_lt (Nat.div_le_self _ _) hv)
theorem kshl {k K : Nat} (hk : k ≤ 58) (hK : 2 ^ k = K) : IntKind.u64.wrap ((2 : Int) ^ k) = (K : Int) := by
  have h1 : K < 18446744073709551616 := by rw [← hK]; exact Nat.lt_of_le_of_lt (Nat.pow_le_pow_right (show 0 < 2 by decide) hk) (by decide)
  have e : ((2 : Int) ^ k) = (K : Int) := by rw [← hK]; simp
  rw [e]
  exact wrapNat K h1
/-- What holds behind i bits. -/
def KBit (r : Nat → Nat) (b : Nat) (S : Mk) (w : World) (W0 N gI gT i : Nat) (wr : World) : Prop := ∃ s : Nat → Nat, GMd s wr b (S.bitsN W0 i) ∧ (∀ k, s k ≠ 0 → r k ≠ 0 ∨ w.heap.size ≤ k) ∧ (∀ k, r k ≠ 0 → s k = r k) ∧ KeepO (fun k => r k ≠ 0) w wr ∧
  Sto wr 3 1 gI N i (idF fun j => ((S.n + j : Nat) : Int)) ∧ Sto wr 61 2 gT N (i * 2) (trmF (fun j => ((S.n + j : Nat) : Int)) (fun j => 2 ^ j)) ∧ s gI = 0 ∧ s gT = 0 ∧ w.heap.size ≤ gI ∧ w.heap.size ≤ gT ∧ gI ≠ gT
set_option maxRecDepth 8000 in
set_option maxHeartbeats 16000000 in
theorem kBitsW (r : Nat → Nat) (b : Nat) (S : Mk) (hG : S.Good) (hn : S.n ≤ 90000) (hm : S.m ≤ 90000) (x n : Int) (w : World) (h : GMd r w b S) :
    Calls Try.prog 34 #[.pointer (some ⟨b, 0, none⟩), .int .i64 x, .int .i64 n] w fun e w' => ∃ v s, e = .returned v ∧ OwnI w' v (bitsOf n) (fun j => ((S.n + j : Nat) : Int)) ∧ (∀ k, v.ownBlock = some k → w.heap.size ≤ k ∧ s k = 0) ∧ GMd s w' b (S.bits (S.is x) (bitsOf n)) ∧ (∀ k, s k ≠ 0 → r k ≠ 0 ∨ w.heap.size ≤ k) ∧ KeepO (fun k => r k ≠ 0) w w' := by
  have h' : Hid (GMd r w b S) := h
  have hG' : Hid S.Good := hG
  have d1 := kthereW r b S hG x w h
  have ha := Mk.is_lt hG x
  obtain ⟨a, hae⟩ : ∃ a, Hid (S.is x = a) := ⟨_, rfl⟩
  rw [hae.out] at d1 ha ⊢
  have cV := kValueW r b S hG (a : Int) w h
  rw [Mk.is_self ha] at cV
  have hv := hG.lt a
  obtain ⟨W0, hW0⟩ : ∃ W0, Hid (S.v a = W0) := ⟨_, rfl⟩
  rw [hW0.out] at cV hv
  obtain ⟨N, hN⟩ : ∃ N, Hid (bitsOf n = N) := ⟨_, rfl⟩
  have hN58 : N ≤ 58 := by rw [← hN.out]; exact bitsOf_le n
  rw [hN.out]
  have hcase : Hid ((n < 0 ∧ N = 0) ∨ (¬ n < 0 ∧ 58 < n ∧ N = 0) ∨ (¬ n < 0 ∧ ¬ 58 < n ∧ n = (N : Int))) := by
    show _ ∨ _
    have e := hN.out
    unfold bitsOf at e
    split at e <;> omega
  clear h hG hae hN
  go_enter Try.func34, Try.ntmps34
  go_upto_region 2 with (go_at_call 43; (with_reducible refine d1.mono ?_); rintro e w' ⟨rfl, rfl⟩)
  clear d1
  obtain ⟨t, ht⟩ : ∃ t : Bool, Hid (t = decide (n < 0 ∨ 58 < n)) := ⟨_, rfl⟩
  go_cut [19] (fun s19 wx => s19 = .bool t ∧ w = wx)
  case first =>
    rcases hcase.out with ⟨q1, q2⟩ | ⟨q1, q2, q3⟩ | ⟨q1, q2, q3⟩
    · obtain rfl : t = true := by rw [ht.out]; exact decide_eq_true (Or.inl q1)
      clear ht hcase
      go_wp2
      go_meet
      case rel => exact ⟨rfl, rfl⟩
    · obtain rfl : t = true := by rw [ht.out]; exact decide_eq_true (Or.inr q2)
      clear ht hcase
      go_wp2
      go_meet
      case rel => exact ⟨rfl, rfl⟩
    · obtain rfl : t = false := by rw [ht.out]; exact decide_eq_false (by omega)
      clear ht hcase q3
      go_wp2
      go_meet
      case rel => exact ⟨by rw [decide_eq_false (by omega), decide_eq_false (by omega)]; rfl, rfl⟩
  case rest =>
    obtain ⟨rfl, rfl⟩ := hcut
    go_upto_if 19 with (fail)
    go_cut [2] (fun s2 wx => s2 = .int .i64 N ∧ w = wx)
    case first =>
      rcases hcase.out with ⟨q1, q2⟩ | ⟨q1, q2, q3⟩ | ⟨q1, q2, q3⟩
      · obtain rfl : t = true := by rw [ht.out]; exact decide_eq_true (Or.inl q1)
        subst q2
        clear ht hcase
        go_wp2
        go_meet
        case rel => exact ⟨rfl, rfl⟩
      · obtain rfl : t = true := by rw [ht.out]; exact decide_eq_true (Or.inr q2)
        subst q3
        clear ht hcase
        go_wp2
        go_meet
        case rel => exact ⟨rfl, rfl⟩
      · obtain rfl : t = false := by rw [ht.out]; exact decide_eq_false (by omega)
        subst q3
        clear ht hcase
        go_wp2
        go_meet
        case rel => exact ⟨rfl, rfl⟩
    case rest =>
      obtain ⟨rfl, rfl⟩ := hcut
      clear hcase ht
      have ha64 : a < 9223372036854775808 := by omega
      go_upto_region 5 with (go_at_call 13; (with_reducible refine cV.mono ?_); rintro e w1 ⟨rfl, b1⟩)
      clear cV
      obtain ⟨mI, hmI⟩ : ∃ f : World → World, ∀ W, (Instr.makeSlice 36 (.int .i64 (N : Nat)) (.int .i64 (N : Nat))).run Try.prog W = .ok (.slice (some ⟨W.heap.size, 0, none⟩) N N) (f W) ∧ Sto (f W) 3 1 W.heap.size N 0 (idF fun j => ((S.n + j : Nat) : Int)) ∧ Below W.heap.size W (f W) := ⟨fun W => Classical.choose (make_ids N (by omega) W (idF fun j => ((S.n + j : Nat) : Int))), fun W => Classical.choose_spec (make_ids N (by omega) W (idF fun j => ((S.n + j : Nat) : Int)))⟩
      obtain ⟨mT, hmT⟩ : ∃ f : World → World, ∀ W, (Instr.makeSlice 35 (.int .i64 (N : Nat)) (.int .i64 (N : Nat))).run Try.prog W = .ok (.slice (some ⟨W.heap.size, 0, none⟩) N N) (f W) ∧ Sto (f W) 61 2 W.heap.size N 0 (trmF (fun j => ((S.n + j : Nat) : Int)) (fun j => 2 ^ j)) ∧ Below W.heap.size W (f W) := ⟨fun W => Classical.choose (make_trms N (by omega) W (trmF (fun j => ((S.n + j : Nat) : Int)) (fun j => 2 ^ j))), fun W => Classical.choose_spec (make_trms N (by omega) W (trmF (fun j => ((S.n + j : Nat) : Int)) (fun j => 2 ^ j)))⟩
      have rI := fun W => (hmI W).1
      have rT := fun W => (hmT W).1
      have sI : Hid (∀ W, Sto (mI W) 3 1 W.heap.size N 0 (idF fun j => ((S.n + j : Nat) : Int)) ∧ Below W.heap.size W (mI W)) := fun W => (hmI W).2
      have sT : Hid (∀ W, Sto (mT W) 61 2 W.heap.size N 0 (trmF (fun j => ((S.n + j : Nat) : Int)) (fun j => 2 ^ j)) ∧ Below W.heap.size W (mT W)) := fun W => (hmT W).2
      clear hmI hmT
      go_cut [8, 9] (fun s8 s9 wx => ∃ gI gT : Nat, s8 = .slice (some ⟨gI, 0, none⟩) N N ∧ s9 = .slice (some ⟨gT, 0, none⟩) N N ∧ Below w1.heap.size w1 wx ∧ Hid (Sto wx 3 1 gI N 0 (idF fun j => ((S.n + j : Nat) : Int))) ∧ Hid (Sto wx 61 2 gT N 0 (trmF (fun j => ((S.n + j : Nat) : Int)) (fun j => 2 ^ j))) ∧ gI ≠ gT ∧ w1.heap.size ≤ gI ∧ w1.heap.size ≤ gT)
      case first =>
        refine wp_region_noPanic ?_
        refine region_lastly (S := (fun _ => True)) [] (by kernel_rfl) (by ((try dsimp only); (all_goals exact True.intro))) (fun hHeld => ?_)
        refine anyZ_free (i := 0) (oi := ?oi_1) (v := ?v_1) ?hi_1 ?hs_1 ?hf_1 ?hr_1 ?hQ_1 (Or.inl ⟨?hw_1, ?hy_1⟩) ?hrest_1
        case hi_1 => (simp only [List.getElem?_toArray, List.getElem?_cons_succ, List.getElem?_cons_zero]; exact rfl)
        case hs_1 => kernel_rfl
        case hf_1 => kernel_rfl
        case hr_1 => kernel_rfl
        case hQ_1 => exact fun _ _ _ h => h
        case hw_1 => rfl
        case hy_1 => (intro w _; go_simp; try with_reducible rfl)
        try simp only [Act.put, List.setIfInBounds_toArray, List.set_cons_zero, List.set_cons_succ]
        refine anyZ_free (i := 2) (oi := ?oi_2) (v := ?v_2) ?hi_2 ?hs_2 ?hf_2 ?hr_2 ?hQ_2 (Or.inl ⟨?hw_2, ?hy_2⟩) ?hrest_2
        case hi_2 => (simp only [List.getElem?_toArray, List.getElem?_cons_succ, List.getElem?_cons_zero]; exact rfl)
        case hs_2 => kernel_rfl
        case hf_2 => kernel_rfl
        case hr_2 => kernel_rfl
        case hQ_2 => exact fun _ _ _ h => h
        case hw_2 => rfl
        case hy_2 => (intro w _; go_simp; try with_reducible rfl)
        try simp only [Act.put, List.setIfInBounds_toArray, List.set_cons_zero, List.set_cons_succ]
        refine anyZ_ready (rs := [1, 3]) (by kernel_rfl) (by simp) ?_
        refine (AllZ.cons (o := ?o_4) ?ho_4 (fun K hK => ?st_4) (AllZ.cons (o := ?o_3) ?ho_3 (fun K hK => ?st_3) AllZ.nil))
        case ho_4 => (simp only [List.getElem?_toArray, List.getElem?_cons_succ, List.getElem?_cons_zero]; exact rfl)
        case ho_3 => (simp only [List.getElem?_toArray, List.getElem?_cons_succ, List.getElem?_cons_zero]; exact rfl)
        case st_4 =>
          go_simp
          refine hK.out _ _ (by ((try dsimp only); (all_goals exact True.intro))) (fun hHeld => ?_)
          clear hK K
          try simp only [Act.put, List.setIfInBounds_toArray, List.set_cons_zero, List.set_cons_succ]
          refine anyZ_ready (rs := [3, 4]) (by kernel_rfl) (by simp) ?_
          refine (AllZ.cons (o := ?o_6) ?ho_6 (fun K hK => ?st_6) (AllZ.cons (o := ?o_5) ?ho_5 (fun K hK => ?st_5) AllZ.nil))
          case ho_6 => (simp only [List.getElem?_toArray, List.getElem?_cons_succ, List.getElem?_cons_zero]; exact rfl)
          case ho_5 => (simp only [List.getElem?_toArray, List.getElem?_cons_succ, List.getElem?_cons_zero]; exact rfl)
          case st_6 =>
            go_simp
            refine hK.out _ _ (by ((try dsimp only); (all_goals exact True.intro))) (fun hHeld => ?_)
            clear hK K
            try simp only [Act.put, List.setIfInBounds_toArray, List.set_cons_zero, List.set_cons_succ]
            refine anyZ_ready (rs := [4]) (by kernel_rfl) (by simp) ?_
            refine (AllZ.cons (o := ?o_7) ?ho_7 (fun K hK => ?st_7) AllZ.nil)
            case ho_7 => (simp only [List.getElem?_toArray, List.getElem?_cons_succ, List.getElem?_cons_zero]; exact rfl)
            case st_7 =>
              go_simp
              refine hK.out _ _ (by ((try dsimp only); (all_goals exact True.intro))) (fun hHeld => ?_)
              clear hK K
              try simp only [Act.put, List.setIfInBounds_toArray, List.set_cons_zero, List.set_cons_succ]
              refine anyZ_ready (rs := [5]) (by kernel_rfl) (by simp) ?_
              refine (AllZ.cons (o := ?o_8) ?ho_8 (fun K hK => ?st_8) AllZ.nil)
              case ho_8 => (simp only [List.getElem?_toArray, List.getElem?_cons_succ, List.getElem?_cons_zero]; exact rfl)
              case st_8 =>
                go_simp
                refine hK.out _ _ (by ((try dsimp only); (all_goals exact True.intro))) (fun hHeld => ?_)
                clear hK K
                try simp only [Act.put, List.setIfInBounds_toArray, List.set_cons_zero, List.set_cons_succ]
                refine anyZ_done (by kernel_rfl) ?_ _
                refine NoPanic.normal ?_
                go_wp2
                go_meet
                case rel =>
                  have zI := fun W => (sI.out W).2.size
                  have zT := fun W => (sT.out W).2.size
                  have lI := fun W => (sI.out W).1.lt
                  have lT := fun W => (sT.out W).1.lt
                  have hd : Below w1.heap.size w1 w1.drew := (Below.refl _ _).drew
                  first
                    | exact ⟨_, _, rfl, rfl, below_via (sT.out (mI w1.drew)).2 (below_via (sI.out w1.drew).2 hd (Nat.le_refl _)) (zI w1.drew), (sI.out w1.drew).1.on (sT.out (mI w1.drew)).2, (sT.out (mI w1.drew)).1, Nat.ne_of_lt (lI w1.drew), Nat.le_refl _, zI w1.drew⟩
                    | exact ⟨_, _, rfl, rfl, below_via (sI.out (mT w1.drew)).2 (below_via (sT.out w1.drew).2 hd (Nat.le_refl _)) (zT w1.drew), (sI.out (mT w1.drew)).1, (sT.out w1.drew).1.on (sI.out (mT w1.drew)).2, (Nat.ne_of_lt (lT w1.drew)).symm, zT w1.drew, Nat.le_refl _⟩
          case st_5 =>
            go_simp
            refine hK.out _ _ (by ((try dsimp only); (all_goals exact True.intro))) (fun hHeld => ?_)
            clear hK K
            try simp only [Act.put, List.setIfInBounds_toArray, List.set_cons_zero, List.set_cons_succ]
            refine anyZ_ready (rs := [3]) (by kernel_rfl) (by simp) ?_
            refine (AllZ.cons (o := ?o_9) ?ho_9 (fun K hK => ?st_9) AllZ.nil)
            case ho_9 => (simp only [List.getElem?_toArray, List.getElem?_cons_succ, List.getElem?_cons_zero]; exact rfl)
            case st_9 =>
              go_simp
              refine hK.out _ _ (by ((try dsimp only); (all_goals exact True.intro))) (fun hHeld => ?_)
              clear hK K
              try simp only [Act.put, List.setIfInBounds_toArray, List.set_cons_zero, List.set_cons_succ]
              refine anyZ_ready (rs := [5]) (by kernel_rfl) (by simp) ?_
              refine (AllZ.cons (o := ?o_10) ?ho_10 (fun K hK => ?st_10) AllZ.nil)
              case ho_10 => (simp only [List.getElem?_toArray, List.getElem?_cons_succ, List.getElem?_cons_zero]; exact rfl)
              case st_10 =>
                go_simp
                refine hK.out _ _ (by ((try dsimp only); (all_goals exact True.intro))) (fun hHeld => ?_)
                clear hK K
                try simp only [Act.put, List.setIfInBounds_toArray, List.set_cons_zero, List.set_cons_succ]
                refine anyZ_done (by kernel_rfl) ?_ _
                refine NoPanic.normal ?_
                go_wp2
                go_meet
                case rel =>
                  have zI := fun W => (sI.out W).2.size
                  have zT := fun W => (sT.out W).2.size
                  have lI := fun W => (sI.out W).1.lt
                  have lT := fun W => (sT.out W).1.lt
                  have hd : Below w1.heap.size w1 w1.drew := (Below.refl _ _).drew
                  first
                    | exact ⟨_, _, rfl, rfl, below_via (sT.out (mI w1.drew)).2 (below_via (sI.out w1.drew).2 hd (Nat.le_refl _)) (zI w1.drew), (sI.out w1.drew).1.on (sT.out (mI w1.drew)).2, (sT.out (mI w1.drew)).1, Nat.ne_of_lt (lI w1.drew), Nat.le_refl _, zI w1.drew⟩
                    | exact ⟨_, _, rfl, rfl, below_via (sI.out (mT w1.drew)).2 (below_via (sT.out w1.drew).2 hd (Nat.le_refl _)) (zT w1.drew), (sI.out (mT w1.drew)).1, (sT.out w1.drew).1.on (sI.out (mT w1.drew)).2, (Nat.ne_of_lt (lT w1.drew)).symm, zT w1.drew, Nat.le_refl _⟩
        case st_3 =>
          go_simp
          refine hK.out _ _ (by ((try dsimp only); (all_goals exact True.intro))) (fun hHeld => ?_)
          clear hK K
          try simp only [Act.put, List.setIfInBounds_toArray, List.set_cons_zero, List.set_cons_succ]
          refine anyZ_ready (rs := [1]) (by kernel_rfl) (by simp) ?_
          refine (AllZ.cons (o := ?o_11) ?ho_11 (fun K hK => ?st_11) AllZ.nil)
          case ho_11 => (simp only [List.getElem?_toArray, List.getElem?_cons_succ, List.getElem?_cons_zero]; exact rfl)
          case st_11 =>
            go_simp
            refine hK.out _ _ (by ((try dsimp only); (all_goals exact True.intro))) (fun hHeld => ?_)
            clear hK K
            try simp only [Act.put, List.setIfInBounds_toArray, List.set_cons_zero, List.set_cons_succ]
            refine anyZ_ready (rs := [4]) (by kernel_rfl) (by simp) ?_
            refine (AllZ.cons (o := ?o_12) ?ho_12 (fun K hK => ?st_12) AllZ.nil)
            case ho_12 => (simp only [List.getElem?_toArray, List.getElem?_cons_succ, List.getElem?_cons_zero]; exact rfl)
            case st_12 =>
              go_simp
              refine hK.out _ _ (by ((try dsimp only); (all_goals exact True.intro))) (fun hHeld => ?_)
              clear hK K
              try simp only [Act.put, List.setIfInBounds_toArray, List.set_cons_zero, List.set_cons_succ]
              refine anyZ_ready (rs := [5]) (by kernel_rfl) (by simp) ?_
              refine (AllZ.cons (o := ?o_13) ?ho_13 (fun K hK => ?st_13) AllZ.nil)
              case ho_13 => (simp only [List.getElem?_toArray, List.getElem?_cons_succ, List.getElem?_cons_zero]; exact rfl)
              case st_13 =>
                go_simp
                refine hK.out _ _ (by ((try dsimp only); (all_goals exact True.intro))) (fun hHeld => ?_)
                clear hK K
                try simp only [Act.put, List.setIfInBounds_toArray, List.set_cons_zero, List.set_cons_succ]
                refine anyZ_done (by kernel_rfl) ?_ _
                refine NoPanic.normal ?_
                go_wp2
                go_meet
                case rel =>
                  have zI := fun W => (sI.out W).2.size
                  have zT := fun W => (sT.out W).2.size
                  have lI := fun W => (sI.out W).1.lt
                  have lT := fun W => (sT.out W).1.lt
                  have hd : Below w1.heap.size w1 w1.drew := (Below.refl _ _).drew
                  first
                    | exact ⟨_, _, rfl, rfl, below_via (sT.out (mI w1.drew)).2 (below_via (sI.out w1.drew).2 hd (Nat.le_refl _)) (zI w1.drew), (sI.out w1.drew).1.on (sT.out (mI w1.drew)).2, (sT.out (mI w1.drew)).1, Nat.ne_of_lt (lI w1.drew), Nat.le_refl _, zI w1.drew⟩
                    | exact ⟨_, _, rfl, rfl, below_via (sI.out (mT w1.drew)).2 (below_via (sT.out w1.drew).2 hd (Nat.le_refl _)) (zT w1.drew), (sI.out (mT w1.drew)).1, (sT.out w1.drew).1.on (sI.out (mT w1.drew)).2, (Nat.ne_of_lt (lT w1.drew)).symm, zT w1.drew, Nat.le_refl _⟩
      case rest =>
        obtain ⟨gI, gT, rfl, rfl, hB2, tI, tT, hne, lI, lT⟩ := hcut
        clear rI rT sI sT
        have hBw : Below w.heap.size w wc := below_via hB2 b1 b1.size
        have zb := b1.size
        have hstart : Hid (KBit r b S w W0 N gI gT 0 wc) := ⟨r, h'.out.below hBw, fun k hk => Or.inl hk, fun _ _ => rfl, KeepO.of_below hBw, tI.out.congr fun j hj => absurd hj (Nat.not_lt_zero _), tT.out, h'.out.zero gI (by omega), h'.out.zero gT (by omega), by omega, by omega, hne⟩
        have hmm : Hid (∀ i, i ≤ 58 → (S.bitsN W0 i).m ≤ 90058) := fun i hi => by have := bitsN_m S W0 i; omega
        clear hB2 tI tT hne lI lT b1 zb hBw h'
        go_wp2
        go_loopw [28] (fun si wr => ∃ i : Nat, i ≤ N ∧ si = .int .i64 i ∧ Hid (KBit r b S w W0 N gI gT i wr)) (fun si _ => N - (intOf si).toNat)
        case atStart => exact ⟨0, by omega, rfl, hstart⟩
        case round =>
          clear hstart
          obtain ⟨i, hi, rfl, hI⟩ := hrel
          by_cases hlt : i < N
          · have hlt' : (i : Int) < (N : Int) := by omega
            have hi0 : (0 : Int) ≤ (i : Int) := by omega
            have hi64 : (i : Int) < 64 := by omega
            obtain ⟨s, ms, g1, g2, g3, tI, tT, zI, zT, lI, lT, hne⟩ := hI.out
            have hnn := Mk.bitsN_n S W0 i
            have hand := kbitAt W0 i (by omega)
            have estep : Hid (S.bitsN W0 (i + 1) = (S.bitsN W0 i).bit (Ob.toG (bitAt W0 i))) := by show _ = _; unfold Mk.bit; rw [hnn]; rfl
            have hX : bitAt W0 i < 18446744073709551616 := Nat.lt_trans (bitAt_lt W0 i) (by decide)
            obtain ⟨X, hXe⟩ : ∃ X, Hid (bitAt W0 i = X) := ⟨_, rfl⟩
            rw [hXe.out] at hand hX estep
            have cB := fun W (hW : Below wr.heap.size wr W) => kbitW s b (S.bitsN W0 i) (by omega) (by have := hmm.out i (by omega); omega) X hX W (ms.below hW)
            rw [hnn, ← estep.out] at cB
            obtain ⟨B, hBe⟩ : ∃ B, Hid (S.n + i = B) := ⟨_, rfl⟩
            rw [hBe.out] at cB
            have B63 : B < 9223372036854775808 := by have := hBe.out; omega
            have hs' : Hid ((∀ k, s k ≠ 0 → r k ≠ 0 ∨ w.heap.size ≤ k) ∧ (∀ k, r k ≠ 0 → s k = r k) ∧ KeepO (fun k => r k ≠ 0) w wr) := ⟨g1, g2, g3⟩
            have tI' : Hid (Sto wr 3 1 gI N i (idF fun j => ((S.n + j : Nat) : Int))) := tI
            have tT' : Hid (Sto wr 61 2 gT N (i * 2) (trmF (fun j => ((S.n + j : Nat) : Int)) (fun j => 2 ^ j))) := tT
            have zI' : Hid (s gI = 0 ∧ s gT = 0) := ⟨zI, zT⟩
            have lt' : Hid (gI < wr.heap.size ∧ gT < wr.heap.size) := ⟨tI.lt, tT.lt⟩
            clear hnn hXe ms g1 g2 g3 tI tT zI zT hI estep
            go_upto_region 10 with (go_at_call 58
                                    (with_reducible refine (cB _ (by (repeat' (first | (with_reducible first | exact Below.refl _ _ | assumption | refine Below.alloc ?_ ?_ _ | refine Below.drew ?_ | refine below_drewN ?_ _ | refine Below.setCell ?_ ?_ _ | refine below_via (by with_reducible assumption) ?_ ?_) | omega | (simp only [szs]; omega) | (simp only [szs] at *; omega))))).mono ?_)
                                    rintro e w3 ⟨rfl, a3⟩
                                    obtain ⟨s2, m3, h1, h2, h3⟩ := a3.get
                                    have m3' : Hid (GMd s2 w3 b (S.bitsN W0 (i + 1))) := m3
                                    have k3 : Hid (KeepO (fun k => s k ≠ 0) wr w3) := h3
                                    have tI3 : Hid (Sto w3 3 1 gI N i (idF fun j => ((S.n + j : Nat) : Int))) := tI'.out.keep h3 (fun h => h zI'.out.1)
                                    obtain ⟨e0, he0⟩ := tI3.out.any (j := i) (by omega)
                                    have fz0 := tI3.out.fz i)
            have hs3 := hs'.out
            have zw3 := h3.size
            have hs2' : Hid ((∀ k, s2 k ≠ 0 → r k ≠ 0 ∨ w.heap.size ≤ k) ∧ (∀ k, r k ≠ 0 → s2 k = r k) ∧ KeepO (fun k => r k ≠ 0) w w3) := ⟨fun k hk => by
              rcases h1 k hk with h | h
              · exact hs3.1 k h
              · exact Or.inr (by have := hs3.2.2.size; omega), fun k hk => by
              have e := hs3.2.1 k hk
              exact (h2 k (by rw [e]; exact hk)).trans e, hs3.2.2.trans h3 fun i hi h => by
              rcases hs3.1 i h with h | h
              · exact h
              · omega⟩
            have z2 : Hid (s2 gI = 0 ∧ s2 gT = 0) := ⟨Decidable.byContradiction fun hh => by
              rcases h1 gI hh with h | h
              · exact h zI'.out.1
              · have := lt'.out.1; omega, Decidable.byContradiction fun hh => by
              rcases h1 gT hh with h | h
              · exact h zI'.out.2
              · have := lt'.out.2; omega⟩
            have tT3 : Hid (Sto w3 61 2 gT N (i * 2) (trmF (fun j => ((S.n + j : Nat) : Int)) (fun j => 2 ^ j))) := tT'.out.keep h3 (fun h => h zI'.out.2)
            clear a3 m3 h1 h2 h3 hs3 zw3 k3 cB hs' tI' tT' zI' lt' hand
            have kI : KeepO (fun k => k = gI) w3 (w3.setCell ⟨gI, i, none⟩ (.int .i64 (B : Nat))) := KeepO.setCell w3 gI i _ rfl
            have m4 : Hid (GMd s2 (w3.setCell ⟨gI, i, none⟩ (.int .i64 (B : Nat))) b (S.bitsN W0 (i + 1))) := m3'.out.keep kI fun k hk e => hk (by rw [e]; exact z2.out.1)
            have tI4 : Hid (Sto (w3.setCell ⟨gI, i, none⟩ (.int .i64 (B : Nat))) 3 1 gI N (i + 1) (idF fun j => ((S.n + j : Nat) : Int))) := tI3.out.set (by omega) (by unfold idF; rw [← hBe.out])
            have tT4 : Hid (Sto (w3.setCell ⟨gI, i, none⟩ (.int .i64 (B : Nat))) 61 2 gT N (i * 2) (trmF (fun j => ((S.n + j : Nat) : Int)) (fun j => 2 ^ j))) := tT3.out.keep kI fun e => hne e.symm
            have hs4 : Hid ((∀ k, s2 k ≠ 0 → r k ≠ 0 ∨ w.heap.size ≤ k) ∧ (∀ k, r k ≠ 0 → s2 k = r k) ∧ KeepO (fun k => r k ≠ 0) w (w3.setCell ⟨gI, i, none⟩ (.int .i64 (B : Nat)))) := ⟨hs2'.out.1, hs2'.out.2.1, hs2'.out.2.2.trans kI fun k hk e => by have : k = gI := e; omega⟩
            clear kI m3' tI3 tT3 hs2' he0 fz0 e0
            generalize w3.setCell ⟨gI, i, none⟩ (.int .i64 (B : Nat)) = W4 at *
            have hBf : (idF fun j => ((S.n + j : Nat) : Int)) i = .int .i64 (B : Nat) := by unfold idF; rw [← hBe.out]
            have dI := tI4.out.cell (j := i) (by omega) (by omega)
            rw [hBf] at dI
            obtain ⟨e1, he1⟩ := tT4.out.any (j := i * 2) (by omega)
            obtain ⟨e2, he2⟩ := tT4.out.any (j := i * 2 + 1) (by omega)
            have fz1 := tT4.out.fz (i * 2)
            have fz2 := tT4.out.fz (i * 2 + 1)
            obtain ⟨K, hKe⟩ : ∃ K : Nat, Hid (2 ^ i = K) := ⟨_, rfl⟩
            have hsh := kshl (k := i) (by omega) hKe.out
            have f1 : Hid (trmF (fun j => ((S.n + j : Nat) : Int)) (fun j => 2 ^ j) (i * 2) = .int .i64 (B : Nat)) := by show _ = _; rw [trmF_0, ← hBe.out]
            have f2 : Hid (trmF (fun j => ((S.n + j : Nat) : Int)) (fun j => 2 ^ j) (i * 2 + 1) = .int .u64 (K : Nat)) := by show _ = _; rw [trmF_1, ← hKe.out]
            clear hBf hBe hKe
            go_wp2
            refine wp_region_noPanic ?_
            refine region_lastly (S := (fun w' => w'.cell? ⟨gI, i, none⟩ = some (.int .i64 (B : Nat)))) [10] (by kernel_rfl) (by ((try dsimp only); (first | exact dI | go_keep))) (fun hHeld => ?_)
            refine anyZ_free (i := 0) (oi := ?oi_14) (v := ?v_14) ?hi_14 ?hs_14 ?hf_14 ?hr_14 ?hQ_14 (Or.inl ⟨?hw_14, ?hy_14⟩) ?hrest_14
            case hi_14 => (simp only [List.getElem?_toArray, List.getElem?_cons_succ, List.getElem?_cons_zero]; exact rfl)
            case hs_14 => kernel_rfl
            case hf_14 => kernel_rfl
            case hr_14 => kernel_rfl
            case hQ_14 => exact fun _ _ _ h => h
            case hw_14 => rfl
            case hy_14 => (intro w _; go_simp; try with_reducible rfl)
            try simp only [Act.put, List.setIfInBounds_toArray, List.set_cons_zero, List.set_cons_succ]
            refine anyZ_free (i := 1) (oi := ?oi_15) (v := ?v_15) ?hi_15 ?hs_15 ?hf_15 ?hr_15 ?hQ_15 (Or.inl ⟨?hw_15, ?hy_15⟩) ?hrest_15
            case hi_15 => (simp only [List.getElem?_toArray, List.getElem?_cons_succ, List.getElem?_cons_zero]; exact rfl)
            case hs_15 => kernel_rfl
            case hf_15 => kernel_rfl
            case hr_15 => kernel_rfl
            case hQ_15 => exact fun _ _ _ h => h
            case hw_15 => rfl
            case hy_15 => (intro w _; go_simp; try with_reducible rfl)
            try simp only [Act.put, List.setIfInBounds_toArray, List.set_cons_zero, List.set_cons_succ]
            refine anyZ_free (i := 2) (oi := ?oi_16) (v := ?v_16) ?hi_16 ?hs_16 ?hf_16 ?hr_16 ?hQ_16 (Or.inl ⟨?hw_16, ?hy_16⟩) ?hrest_16
            case hi_16 => (simp only [List.getElem?_toArray, List.getElem?_cons_succ, List.getElem?_cons_zero]; exact rfl)
            case hs_16 => kernel_rfl
            case hf_16 => kernel_rfl
            case hr_16 => kernel_rfl
            case hQ_16 => exact fun _ _ _ h => h
            case hw_16 => rfl
            case hy_16 => (intro w _; go_simp; try with_reducible rfl)
            try simp only [Act.put, List.setIfInBounds_toArray, List.set_cons_zero, List.set_cons_succ]
            refine anyZ_free (i := 3) (oi := ?oi_17) (v := ?v_17) ?hi_17 ?hs_17 ?hf_17 ?hr_17 ?hQ_17 (Or.inl ⟨?hw_17, ?hy_17⟩) ?hrest_17
            case hi_17 => (simp only [List.getElem?_toArray, List.getElem?_cons_succ, List.getElem?_cons_zero]; exact rfl)
            case hs_17 => kernel_rfl
            case hf_17 => kernel_rfl
            case hr_17 => kernel_rfl
            case hQ_17 => exact fun _ _ _ h => h
            case hw_17 => rfl
            case hy_17 => (intro w _; go_simp; try with_reducible rfl)
            try simp only [Act.put, List.setIfInBounds_toArray, List.set_cons_zero, List.set_cons_succ]
            refine anyZ_free (i := 4) (oi := ?oi_18) (v := ?v_18) ?hi_18 ?hs_18 ?hf_18 ?hr_18 ?hQ_18 (Or.inl ⟨?hw_18, ?hy_18⟩) ?hrest_18
            case hi_18 => (simp only [List.getElem?_toArray, List.getElem?_cons_succ, List.getElem?_cons_zero]; exact rfl)
            case hs_18 => kernel_rfl
            case hf_18 => kernel_rfl
            case hr_18 => kernel_rfl
            case hQ_18 => exact fun _ _ _ h => h
            case hw_18 => rfl
            case hy_18 => (intro w _; go_simp; try with_reducible rfl)
            try simp only [Act.put, List.setIfInBounds_toArray, List.set_cons_zero, List.set_cons_succ]
            refine anyZ_take (i := 5) (oi := ?oi_19) (v := ?v_19) ?hi_19 ?hz_19 ?hs_19 ?hf_19 ?hr_19 ?hQ_19 (Or.inl ⟨?hw_19, ?hy_19⟩) ?hS_19 ?hrest_19
            case hi_19 => (simp only [List.getElem?_toArray, List.getElem?_cons_succ, List.getElem?_cons_zero]; exact rfl)
            case hz_19 => kernel_rfl
            case hs_19 => kernel_rfl
            case hf_19 => kernel_rfl
            case hr_19 => kernel_rfl
            case hQ_19 => exact fun _ _ _ h => h
            case hw_19 => rfl
            case hS_19 => assumption
            case hy_19 => (intro w hSw; (try dsimp only at hSw); go_simp; try with_reducible rfl)
            try simp only [Act.put, List.setIfInBounds_toArray, List.set_cons_zero, List.set_cons_succ]
            refine anyZ_free (i := 6) (oi := ?oi_20) (v := ?v_20) ?hi_20 ?hs_20 ?hf_20 ?hr_20 ?hQ_20 (Or.inl ⟨?hw_20, ?hy_20⟩) ?hrest_20
            case hi_20 => (simp only [List.getElem?_toArray, List.getElem?_cons_succ, List.getElem?_cons_zero]; exact rfl)
            case hs_20 => kernel_rfl
            case hf_20 => kernel_rfl
            case hr_20 => kernel_rfl
            case hQ_20 => exact fun _ _ _ h => h
            case hw_20 => rfl
            case hy_20 => (intro w _; go_simp; try with_reducible rfl)
            try simp only [Act.put, List.setIfInBounds_toArray, List.set_cons_zero, List.set_cons_succ]
            refine anyZ_free (i := 7) (oi := ?oi_21) (v := ?v_21) ?hi_21 ?hs_21 ?hf_21 ?hr_21 ?hQ_21 (Or.inl ⟨?hw_21, ?hy_21⟩) ?hrest_21
            case hi_21 => (simp only [List.getElem?_toArray, List.getElem?_cons_succ, List.getElem?_cons_zero]; exact rfl)
            case hs_21 => kernel_rfl
            case hf_21 => kernel_rfl
            case hr_21 => kernel_rfl
            case hQ_21 => exact fun _ _ _ h => h
            case hw_21 => rfl
            case hy_21 => (intro w _; go_simp; try with_reducible rfl)
            try simp only [Act.put, List.setIfInBounds_toArray, List.set_cons_zero, List.set_cons_succ]
            refine anyZ_free (i := 8) (oi := ?oi_22) (v := ?v_22) ?hi_22 ?hs_22 ?hf_22 ?hr_22 ?hQ_22 (Or.inl ⟨?hw_22, ?hy_22⟩) ?hrest_22
            case hi_22 => (simp only [List.getElem?_toArray, List.getElem?_cons_succ, List.getElem?_cons_zero]; exact rfl)
            case hs_22 => kernel_rfl
            case hf_22 => kernel_rfl
            case hr_22 => kernel_rfl
            case hQ_22 => exact fun _ _ _ h => h
            case hw_22 => rfl
            case hy_22 => (intro w _; go_simp; try with_reducible rfl)
            try simp only [Act.put, List.setIfInBounds_toArray, List.set_cons_zero, List.set_cons_succ]
            refine anyZ_free (i := 9) (oi := ?oi_23) (v := ?v_23) ?hi_23 ?hs_23 ?hf_23 ?hr_23 ?hQ_23 (Or.inl ⟨?hw_23, ?hy_23⟩) ?hrest_23
            case hi_23 => (simp only [List.getElem?_toArray, List.getElem?_cons_succ, List.getElem?_cons_zero]; exact rfl)
            case hs_23 => kernel_rfl
            case hf_23 => kernel_rfl
            case hr_23 => kernel_rfl
            case hQ_23 => exact fun _ _ _ h => h
            case hw_23 => rfl
            case hy_23 => (intro w _; go_simp; try with_reducible rfl)
            try simp only [Act.put, List.setIfInBounds_toArray, List.set_cons_zero, List.set_cons_succ]
            refine anyZ_ready (rs := [10]) (by kernel_rfl) (by simp) ?_
            refine (AllZ.last (o := ?o_24) ?ho_24 (by rfl) (fun K hK => ?st_24) AllZ.nil)
            case ho_24 => (simp only [List.getElem?_toArray, List.getElem?_cons_succ, List.getElem?_cons_zero]; exact rfl)
            case st_24 =>
              go_simp
              refine hK.out _ _ ?_
              clear hK K
              try simp only [Act.put, List.setIfInBounds_toArray, List.set_cons_zero, List.set_cons_succ]
              refine anyZ_done (by kernel_rfl) ?_ _
              refine NoPanic.normal ?_
              clear hsh
              have kT1 : KeepO (fun k => k = gT) W4 (W4.setCell ⟨gT, i * 2, none⟩ (.int .i64 (B : Nat))) := KeepO.setCell W4 gT _ _ rfl
              have kT2 : KeepO (fun k => k = gT) (W4.setCell ⟨gT, i * 2, none⟩ (.int .i64 (B : Nat))) ((W4.setCell ⟨gT, i * 2, none⟩ (.int .i64 (B : Nat))).setCell ⟨gT, i * 2 + 1, none⟩ (.int .u64 (K : Nat))) := KeepO.setCell _ gT _ _ rfl
              have kT3 : KeepO (fun k => k = gT) ((W4.setCell ⟨gT, i * 2, none⟩ (.int .i64 (B : Nat))).setCell ⟨gT, i * 2 + 1, none⟩ (.int .u64 (K : Nat))) (((W4.setCell ⟨gT, i * 2, none⟩ (.int .i64 (B : Nat))).setCell ⟨gT, i * 2 + 1, none⟩ (.int .u64 (K : Nat))).drew) := KeepO.of_below (Below.refl _ _).drew
              have kT : KeepO (fun k => k = gT) W4 (((W4.setCell ⟨gT, i * 2, none⟩ (.int .i64 (B : Nat))).setCell ⟨gT, i * 2 + 1, none⟩ (.int .u64 (K : Nat))).drew) := (kT1.trans kT2 fun _ _ h => h).trans kT3 fun _ _ h => h
              have sT5 := ((tT4.out.set (by omega) f1.out).set (by omega) f2.out)
              rw [show i * 2 + 1 + 1 = (i + 1) * 2 by omega] at sT5
              have hI5 : Hid (KBit r b S w W0 N gI gT (i + 1) (((W4.setCell ⟨gT, i * 2, none⟩ (.int .i64 (B : Nat))).setCell ⟨gT, i * 2 + 1, none⟩ (.int .u64 (K : Nat))).drew)) := ⟨s2, m4.out.keep kT fun k hk e => hk (by rw [e]; exact z2.out.2), hs4.out.1, hs4.out.2.1, hs4.out.2.2.trans kT fun k hk e => (by have : k = gT := e; omega), tI4.out.keep kT fun e => hne e, sT5.on (Below.refl _ _).drew, z2.out.1, z2.out.2, lI, lT, hne⟩
              clear kT1 kT2 kT3 kT sT5 m4 hs4 tI4 tT4 he1 he2 fz1 fz2 dI
              generalize ((W4.setCell ⟨gT, i * 2, none⟩ (.int .i64 (B : Nat))).setCell ⟨gT, i * 2 + 1, none⟩ (.int .u64 (K : Nat))).drew = W5 at *
              go_wp2
              go_roundw
              case rel => exact ⟨i + 1, by omega, by go_num, hI5⟩
              case measure => first | (simp [intOf]; done) | (simp [intOf]; omega)
          · obtain rfl : i = N := by omega
            have hlt' : ¬ (i : Int) < (i : Int) := by omega
            obtain ⟨s, ms, g1, g2, g3, tI, tT, zI, zT, lI, lT, hne⟩ := hI.out
            have ms' : Hid (GMd s wr b (S.bitsN W0 i)) := ms
            have g1' : Hid (∀ k, s k ≠ 0 → r k ≠ 0 ∨ w.heap.size ≤ k) := g1
            have g2' : Hid (∀ k, r k ≠ 0 → s k = r k) := g2
            have g3' : Hid (KeepO (fun k => r k ≠ 0) w wr) := g3
            have oI : Hid (OwnI wr (.slice (some ⟨gI, 0, none⟩) i i) i (fun j => ((S.n + j : Nat) : Int))) := Sto.ids (by rw [Nat.mul_one]; exact tI)
            have PO : Hid (Lst.Ok ⟨some ⟨gT, 0, none⟩, i, i, fun j => if j < 64 then ((S.n + j : Nat) : Int) else 0, fun j => if j < 64 then 2 ^ j else 0⟩) := by
              refine ⟨fun j => ?_, fun j => ?_, fun j => ?_, Nat.le_refl _, (by show i ≤ 9223372036854775807; omega)⟩
              · show _ ≤ (if j < 64 then ((S.n + j : Nat) : Int) else 0); split <;> omega
              · show (if j < 64 then ((S.n + j : Nat) : Int) else 0) < _; split <;> omega
              · show (if j < 64 then 2 ^ j else 0) < _
                split
                · exact Nat.pow_lt_pow_right (show 1 < 2 by decide) (show j < 64 by assumption)
                · decide
            have eP : Hid (LEq ⟨some ⟨gT, 0, none⟩, i, i, fun j => if j < 64 then ((S.n + j : Nat) : Int) else 0, fun j => if j < 64 then 2 ^ j else 0⟩ (bitSum S.n i)) := ⟨rfl, fun j hj => by
              have hj' : j < i := hj
              exact ⟨if_pos (by omega), if_pos (by omega)⟩⟩
            have tT2 := tT.congr (f' := trmF (fun j => if j < 64 then ((S.n + j : Nat) : Int) else 0) (fun j => if j < 64 then 2 ^ j else 0)) fun j hj => by
              unfold trmF
              dsimp only
              rw [if_pos (show j / 2 < 64 by omega), if_pos (show j / 2 < 64 by omega)]
            have tP : Hid (Lst.At ⟨some ⟨gT, 0, none⟩, i, i, fun j => if j < 64 then ((S.n + j : Nat) : Int) else 0, fun j => if j < 64 then 2 ^ j else 0⟩ wr.heap.size wr) := Or.inr ⟨gT, 0, rfl, tT.lt, tT2.trms⟩
            have hbm : Hid ((S.bitsN W0 i).m ≤ 100000) := Nat.le_trans (hmm.out i (by omega)) (by decide)
            have eB : Hid (S.bits a i = (S.bitsN W0 i).row (bitSum S.n i) (just 0) (just a)) := by show _ = _; unfold Mk.bits; rw [hW0.out]
            have cJ0 := konlyW 0 (by decide)
            have cJ1 := konlyW a (by omega)
            rw [show (((0 : Nat) : Int)) = 0 from rfl] at cJ0
            have zI' : Hid (s gI = 0) := zI
            unfold Lst.val at cJ0 cJ1
            clear ms g1 g2 g3 tI tT tT2 zI zT hI hmm
            go_upto_region 13 with (first | (go_at_call 52; (with_reducible refine (cJ0 _).mono ?_); rintro e w2 ⟨P0, rfl, o2, n2, e2, t2, b2, _⟩; have n2' : Hid (P0.n ≤ 1000) := (by show _ ≤ _; omega); clear n2) | (go_at_call 52; (with_reducible refine (cJ1 _).mono ?_); rintro e w3 ⟨P1, rfl, o3, n3, e3, t3, b3, _⟩; have n3' : Hid (P1.n ≤ 1000) := (by show _ ≤ _; omega); clear n3; have cR := krowW s b (S.bitsN W0 i) hbm.out ⟨some ⟨gT, 0, none⟩, i, i, fun j => if j < 64 then ((S.n + j : Nat) : Int) else 0, fun j => if j < 64 then 2 ^ j else 0⟩ P0 P1 PO.out o2 o3 (show i ≤ 1000 by omega) n2'.out n3'.out (bitSum S.n i) (just 0) (just a) eP.out e2 e3 w3 ((ms'.out.below b2).below b3) (TrmsAt.to (TrmsAt.to tP.out b2 (Nat.le_refl _)) b3 (Nat.le_refl _)) (TrmsAt.to t2 b3 (Nat.le_refl _)) t3; unfold Lst.val at cR) | (go_at_call 57; (with_reducible refine cR.mono ?_); rintro e w4 ⟨rfl, a4⟩))
            have hb23 : Below wr.heap.size wr w3 := below_via b3 b2 b2.size
            have oI3 : OwnI w3 (.slice (some ⟨gI, 0, none⟩) i i) i (fun j => ((S.n + j : Nat) : Int)) := own_below oI.out hb23 fun k hk => (World.ownsRow.lt oI.out k hk).2
            obtain ⟨q, mq, h1, h2, h3⟩ := (GAf.then g1'.out g2'.out g3'.out (GAf.of_below hb23 a4)).get
            obtain ⟨s4, m4, i1, i2, i3⟩ := (GAf.of_below hb23 a4).get
            have oI4 : Hid (OwnI w4 (.slice (some ⟨gI, 0, none⟩) i i) i (fun j => ((S.n + j : Nat) : Int))) := own_keep0 oI.out i3 fun k hk => (by
              have e : gI = k := by simpa [Value.ownBlock] using hk
              rw [← e]; exact zI'.out)
            have gLt : gI < wr.heap.size := (World.ownsRow.lt oI.out gI rfl).2
            have z4 : Hid (s4 gI = 0) := (Decidable.byContradiction fun hh => by
              rcases i1 gI hh with h | h
              · exact h zI'.out
              · omega : s4 gI = 0)
            have zr := g3'.out.size
            have hend : Hid (GMd s4 w4 b (S.bits a i) ∧ (∀ k, s4 k ≠ 0 → r k ≠ 0 ∨ w.heap.size ≤ k) ∧ KeepO (fun k => r k ≠ 0) w w4) := by
              show _ ∧ _
              rw [eB.out]
              refine ⟨m4, fun k hk => ?_, h3⟩
              rcases i1 k hk with h | h
              · exact g1'.out k h
              · exact Or.inr (by omega)
            clear cR a4 oI3 hb23 b2 b3 t2 t3 e2 e3 o2 o3 n2' n3' cJ0 cJ1 m4 i1 i2 i3 mq h1 h2 h3 zr gLt
            go_wp2
            go_ret
            exact ⟨_, s4, rfl, oI4.out, fun k hk => (by
              have e : gI = k := by simpa [Value.ownBlock] using hk
              rw [← e]; exact ⟨lI, z4.out⟩), hend.out.1, hend.out.2.1, hend.out.2.2⟩
end Go.Proofs.Ytdbolfmmlmoiaaa

namespace Go.Proofs.Ytdbolfmmlmoiaaa
open Go.RowKit Go.Proofs
set_option linter.unusedVariables false
set_option linter.unusedSimpArgs false
attribute [local go_sem ↓] Go.wp_at_zero Go.wp_at_succ
theorem kNewW (w : World) : Calls Try.prog 10 #[] w fun e w' => ∃ g r, e = .returned (.pointer (some ⟨g, 0, none⟩)) ∧ GMd r w' g Mk.new ∧ (∀ k, r k ≠ 0 → w.heap.size ≤ k) ∧ Below w.heap.size w w' := by
  go_enter Try.func10, Try.ntmps10
  go_wp2
  go_ret
  refine ⟨w.heap.size + 1, fun k => if k = w.heap.size + 1 then 1 else if k = w.heap.size then 3 else 0, by first | rfl | simp, ⟨.slice none 0 0, .slice (some ⟨w.heap.size, 0, none⟩) 1 1, fun _ _ => lstOf [], ⟨(by simp [go_sem]; try rfl), (by simp [go_sem]), (by simp [go_sem]), fun o ho => (by simp [go_sem]), if_pos rfl, fun k hk => ?_, World.ownsRow_nil _ 0 _ 3, fun k hk => (by cases hk), ?_, fun k hk => ?_, fun i hi => absurd hi (Nat.not_lt_zero _)⟩, ⟨fun i hi => absurd hi (Nat.not_lt_zero _)⟩, fun i hi => absurd hi (Nat.not_lt_zero _)⟩, fun k hk => ?_, by (repeat' (first | (with_reducible first | exact Below.refl _ _ | assumption | refine Below.alloc ?_ ?_ _ | refine Below.drew ?_ | refine below_drewN ?_ _ | refine Below.setCell ?_ ?_ _ | refine below_via (by with_reducible assumption) ?_ ?_) | omega | (simp only [szs]; omega) | (simp only [szs] at *; omega)))⟩
  · simp only [szs]
    try dsimp only at hk
    split at hk
    · omega
    · split at hk
      · omega
      · exact absurd rfl hk
  · exact (World.ownsRow_lit (base := 0) (e := 30) (size := 1) w #[.int .u64 1] 1 (Nat.zero_le _) (by decide) rfl).alloc _
  · have e : w.heap.size = k := by simpa [Value.ownBlock] using hk
    rw [← e, if_neg (by omega), if_pos rfl]
  · try dsimp only at hk
    split at hk
    · omega
    · split at hk
      · omega
      · exact absurd rfl hk
theorem kmany_m (S : Mk) (m : Nat) (V : Nat → Int) : ∀ i, (S.manyV m V i).m = S.m + 1 + 7 * i
  | 0 => rfl
  | i + 1 => by
    have e : (S.manyV m V (i + 1)).m = (S.manyV m V i).m + 7 := rfl
    rw [e, kmany_m S m V i]; omega
set_option maxRecDepth 4000 in
set_option maxHeartbeats 8000000 in
theorem kManyW (r : Nat → Nat) (b : Nat) (S : Mk) (hG : S.Good) (hn : S.n ≤ 3000) (hm : S.m ≤ 3000) (ad : Option Addr) (m c : Nat) (V : Nat → Int) (hm5 : m ≤ 5) (w : World) (h : GMd r w b S) (hI : IdsAt w.heap.size w ad m V) (hdis : ∀ y, ad = some y → 0 < m → r y.block = 0) :
    Calls Try.prog 22 #[.pointer (some ⟨b, 0, none⟩), .slice ad m c] w fun e w' => e = .returned (.int .i64 ((S.n + 7 * m : Nat) : Int)) ∧ GAf r w w' b (S.manyV m V m) := by
  have h' : Hid (GMd r w b S) := h
  have hG' : Hid S.Good := hG
  have hI' : Hid (IdsAt w.heap.size w ad m V) := hI
  have hdis' : Hid (∀ y, ad = some y → 0 < m → r y.block = 0) := hdis
  have hwm : IntKind.u64.wrap (m : Int) = (m : Int) := wrapNat m (by omega)
  have hZn : Hid (∀ i, (S.manyV m V i).n = S.n + 1 + 7 * i) := Mk.manyV_n S m V
  have hZm : Hid (∀ i, (S.manyV m V i).m = S.m + 1 + 7 * i) := kmany_m S m V
  have hZg : Hid (∀ i, (S.manyV m V i).Good) := Mk.Good.manyV hG m V
  have hA : Below w.heap.size w (w.alloc (.cells #[.int .i64 0, .int .u64 (m : Nat)] 61)) := (Below.refl _ _).alloc (Nat.le_refl _) _
  have hL : Hid (Lst.Ok ⟨some ⟨w.heap.size, 0, none⟩, 1, 1, fun _ => 0, fun _ => m⟩) := ⟨fun _ => (by show (-9223372036854775808 : Int) ≤ 0; decide), fun _ => (by show (0 : Int) < 9223372036854775808; decide), fun _ => (by show m < 18446744073709551616; omega), Nat.le_refl _, (by show 1 ≤ 9223372036854775807; decide)⟩
  have is0 : S.is 0 = 0 := by
    unfold Mk.is
    split
    · rfl
    · rfl
  have eL : Hid (LEq (S.isL ⟨some ⟨w.heap.size, 0, none⟩, 1, 1, fun _ => 0, fun _ => m⟩) (lstOf [(0, m)])) := ⟨rfl, fun i hi => by
    have hi' : i < 1 := hi
    obtain rfl : i = 0 := by omega
    exact ⟨by show ((S.is 0 : Nat) : Int) = 0; rw [is0]; rfl, rfl⟩⟩
  have tL : Hid (Lst.At ⟨some ⟨w.heap.size, 0, none⟩, 1, 1, fun _ => 0, fun _ => m⟩ (w.alloc (.cells #[.int .i64 0, .int .u64 (m : Nat)] 61)).heap.size (w.alloc (.cells #[.int .i64 0, .int .u64 (m : Nat)] 61))) := Or.inr ⟨w.heap.size, 0, rfl, by simp, by simp, fun i hi => (by
    obtain rfl : i = 0 := by have : i < 1 := hi; omega
    simp [go_sem]), fun i hi => (by
    obtain rfl : i = 0 := by have : i < 1 := hi; omega
    simp [go_sem])⟩
  have cL := klinearW r b S hG (by omega) (by omega) ⟨some ⟨w.heap.size, 0, none⟩, 1, 1, fun _ => 0, fun _ => m⟩ hL.out (by show 1 ≤ 1000; decide) (lstOf [(0, m)]) eL.out _ (h.below hA) tL.out
  have hA' : Hid (Below w.heap.size w (w.alloc (.cells #[.int .i64 0, .int .u64 (m : Nat)] 61))) := hA
  unfold Lst.val at cL
  clear h hG hI hdis hL eL tL hA is0
  go_enter Try.func22, Try.ntmps22
  go_upto_region 2 with (go_at_call 30; (with_reducible refine cL.mono ?_); rintro e w1 ⟨rfl, a1⟩; have hstart : Hid (GAf r w w1 b (S.manyV m V 0)) := GAf.of_below hA'.out a1; clear a1)
  clear cL hA'
  go_wp2
  go_loopw [5, 17] (fun sh si wr => ∃ i X : Nat, i ≤ m ∧ sh = .int .i64 (X : Nat) ∧ si = .int .i64 i ∧ Hid (X = S.n + 7 * i) ∧ Hid (GAf r w wr b (S.manyV m V i))) (fun _ si _ => m - (intOf si).toNat)
  case atStart => exact ⟨0, S.n, by omega, rfl, rfl, by show S.n = S.n + 7 * 0; omega, hstart⟩
  case round =>
    clear hstart
    obtain ⟨i, X, hi, rfl, rfl, hX, hA⟩ := hrel
    by_cases hlt : i < m
    · have hlt' : (i : Int) < (m : Int) := by omega
      have hi0 : (0 : Int) ≤ (i : Int) := by omega
      rcases hI'.out with hz | ⟨bb, off, hb, lb, tb⟩
      · omega
      obtain ⟨s, ms, g1, g2, g3⟩ := hA.out
      have g1' : Hid (∀ k, s k ≠ 0 → r k ≠ 0 ∨ w.heap.size ≤ k) := g1
      have g2' : Hid (∀ k, r k ≠ 0 → s k = r k) := g2
      have g3' : Hid (KeepO (fun k => r k ≠ 0) w wr) := g3
      have d0 := g3.cell (tb.at_ i hlt) (fun hr => hr (hdis'.out _ hb (by omega)))
      have cT := kTwoW s b (S.manyV m V i) (hZg.out i) (by rw [hZn.out]; omega) (by rw [hZm.out]; omega) (X : Int) (V i) wr ms
      have hXn : X < (S.manyV m V i).n := by rw [hZn.out, hX.out]; omega
      rw [Mk.is_self hXn] at cT
      have eS : Hid (S.manyV m V (i + 1) = (S.manyV m V i).two X ((S.manyV m V i).is (V i))) := by show _ = _; rw [hX.out]; rfl
      rw [← eS.out, hZn.out i] at cT
      obtain ⟨X2, hX2⟩ : ∃ X2, Hid (S.n + 1 + 7 * i + 6 = X2) := ⟨_, rfl⟩
      rw [hX2.out] at cT
      have hX3 : Hid (X2 = S.n + 7 * (i + 1)) := by show _ = _; have := hX2.out; omega
      rw [hb]
      clear tb lb hb hA hX hX2 hXn eS g1 g2 g3 ms
      generalize V i = x at *
      go_wp2_with (go_at_call 21; (with_reducible refine cT.mono ?_); rintro e w2 ⟨rfl, a2⟩; have hend : Hid (GAf r w w2 b (S.manyV m V (i + 1))) := GAf.then g1'.out g2'.out g3'.out a2; clear a2 cT)
      go_roundw
      case rel => exact ⟨i + 1, X2, by omega, by first | rfl | trivial, by go_num, hX3, hend⟩
      case measure => first | (simp [intOf]; done) | (simp [intOf]; omega)
    · obtain rfl : i = m := by omega
      have hlt' : ¬ (i : Int) < (i : Int) := by omega
      go_wp2
      go_ret
      exact ⟨by simp; have := hX.out; omega, hA.out⟩
end Go.Proofs.Ytdbolfmmlmoiaaa

namespace Go.Proofs.Ytdbolfmmlmoiaaa
open Go.RowKit Go.Proofs
set_option linter.unusedVariables false
set_option linter.unusedSimpArgs false
attribute [local go_sem ↓] Go.wp_at_zero Go.wp_at_succ
/-- A list's copy: the same terms, in new memory. -/
structure Cloned (B : Nat) (w : World) (L M : Lst) : Prop where
  n : M.n = L.n
  V : M.V = L.V
  K : M.K = L.K
  ok : M.Ok
  at_ : M.At w.heap.size w
  new : ∀ x, M.ad = some x → B ≤ x.block ∧ x.block < w.heap.size ∧ ∀ o, w.frozen? ⟨x.block, o, none⟩ = false
theorem Cloned.low {B B' : Nat} {w : World} {L M : Lst} (h : Cloned B w L M) (hB : B' ≤ B) : Cloned B' w L M := ⟨h.n, h.V, h.K, h.ok, h.at_, fun x hx => ⟨Nat.le_trans hB (h.new x hx).1, (h.new x hx).2⟩⟩
theorem Cloned.on {B : Nat} {w w' : World} {L M : Lst} (h : Cloned B w L M) (hb : Below w.heap.size w w') : Cloned B w' L M :=
  ⟨h.n, h.V, h.K, h.ok, TrmsAt.to h.at_ hb (Nat.le_refl _), fun x hx => ⟨(h.new x hx).1, Nat.lt_of_lt_of_le (h.new x hx).2.1 hb.size, fun o => by rw [(bcell hb).2 x.block o (h.new x hx).2.1]; exact (h.new x hx).2.2 o⟩⟩
set_option maxHeartbeats 4000000 in
theorem kcloneT (L : Lst) (hL : L.Ok) (hn : L.n ≤ 1000000) (w : World) (hA : L.At w.heap.size w) :
    Calls Try.prog 44 #[L.val] w fun e w' => ∃ M : Lst, e = .returned M.val ∧ Cloned w.heap.size w' L M ∧ Below w.heap.size w w' := by
  have qT : ∀ (w : World) (a : Option Addr) (n c n' c' : Nat), (binOp .eql 35 (.slice a n c) (.slice none n' c')).run Try.prog w = .ok (.bool a.isNone) w := fun w a n c n' c' => Lib.run_eql_slice_nil w _ _ a n c n' c' Try.underlying35
  have hA' : Hid (L.At w.heap.size w) := hA
  have hL' : Hid L.Ok := hL
  have hn' : Hid (L.n ≤ 1000000) := hn
  cases had : L.ad with
  | none =>
    have h0 : L.n = 0 := by
      rcases hA with h | ⟨b, o, e, _⟩
      · exact h
      · rw [had] at e; cases e
    have hM : Hid (Cloned w.heap.size w L ⟨none, 0, 0, L.V, L.K⟩) := ⟨h0.symm, rfl, rfl, ⟨hL.V1, hL.V2, hL.K1, Nat.le_refl _, (by show 0 ≤ 9223372036854775807; decide)⟩, Or.inl rfl, fun x h => (by cases h)⟩
    unfold Lst.val
    rw [had]
    clear hA hL hn
    go_enter Try.func44, Try.ntmps44
    go_wp2
    go_ret
    exact ⟨⟨none, 0, 0, L.V, L.K⟩, rfl, hM.out, Below.refl _ _⟩
  | some a =>
    unfold Lst.val
    rw [had]
    clear hA hL hn
    go_enter Try.func44, Try.ntmps44
    go_wp2_with (at_builtin; refine wpList_copyT rfl _ _ rfl w.heap.size w.heap.size rfl (World.ownsRow_made w #[] 0 (Nat.le_refl _) (by decide) rfl) (by simp) w.heap.size (some a) L.n L.c L.V L.K rfl (by rw [← had]; exact TrmsAt.below hA'.out ((Below.refl _ w).alloc (Nat.le_refl _) _)) hn'.out ?_; intro g cap w2 hown hB2)
    go_ret
    have hb0 : Below w.heap.size w w2 := Below.trans ((Below.refl _ w).alloc (Nat.le_refl _) _) hB2
    obtain ⟨a', c', e, h1, h2, hT⟩ := hown.trms
    cases e
    exact ⟨⟨some ⟨g, 0, none⟩, L.n, cap, L.V, L.K⟩, rfl, ⟨rfl, rfl, rfl, ⟨hL'.out.V1, hL'.out.V2, hL'.out.K1, h1, (by unfold maxLen at h2; show cap ≤ 9223372036854775807; omega)⟩, hT, fun x hx => (by
      cases hx
      exact ⟨(hown.lt g rfl).1, (hown.lt g rfl).2, fun o => World.ownsRow.frozenAt hown o⟩)⟩, hb0⟩
set_option maxHeartbeats 4000000 in
theorem kcloneW (a : Addr) (n c : Nat) (x : Nat → Nat) (hn : n ≤ 1000000) (w : World) (hs : SrcW w.heap.size w (some a) n x) :
    Calls Try.prog 45 #[.slice (some a) n c] w fun e w' => ∃ g d, e = .returned (.slice (some ⟨g, 0, none⟩) n d) ∧ n ≤ d ∧ Wds w' g 0 n x ∧ w.heap.size ≤ g ∧ (∀ o, w'.frozen? ⟨g, o, none⟩ = false) ∧ Below w.heap.size w w' := by
  have qT : ∀ (w : World) (a : Option Addr) (n c n' c' : Nat), (binOp .eql 31 (.slice a n c) (.slice none n' c')).run Try.prog w = .ok (.bool a.isNone) w := fun w a n c n' c' => Lib.run_eql_slice_nil w _ _ a n c n' c' Try.underlying31
  have hs' : Hid (SrcW w.heap.size w (some a) n x) := hs
  have hn' : Hid (n ≤ 1000000) := hn
  clear hs hn
  go_enter Try.func45, Try.ntmps45
  go_wp2_with (at_builtin; refine wpList_copyW rfl _ _ rfl w.heap.size w.heap.size rfl (World.ownsRow_made w #[] 0 (Nat.le_refl _) (by decide) rfl) (by simp) w.heap.size (some a) n c x rfl (hs'.out.below ((Below.refl _ w).alloc (Nat.le_refl _) _)) hn'.out ?_; intro g cap w2 hown hB2)
  go_ret
  have hb0 : Below w.heap.size w w2 := Below.trans ((Below.refl _ w).alloc (Nat.le_refl _) _) hB2
  obtain ⟨a', c', e, h1, h2, _⟩ := OwnW.src (w := w2) (base := w.heap.size) (v := .slice (some ⟨g, 0, none⟩) n cap) (n := n) (z := x) hown
  cases e
  exact ⟨g, cap, rfl, h1, wds_of_row hown, (World.ownsRow.lt hown g rfl).1, fun o => World.ownsRow.frozenAt hown o, hb0⟩
end Go.Proofs.Ytdbolfmmlmoiaaa

namespace Go.Proofs.Ytdbolfmmlmoiaaa
open Go.RowKit Go.Proofs
set_option linter.unusedVariables false
set_option linter.unusedSimpArgs false
attribute [local go_sem ↓] Go.wp_at_zero Go.wp_at_succ
/-- A sum's variables rise: it has no more terms than there are variables. -/
theorem IsSum.len {L O : Lst} (h : IsSum L O) {n : Nat} (hL : L.In n) : O.n ≤ n := by
  have key : ∀ i : Nat, i < O.n → (i : Int) ≤ O.V i := fun i => by
    induction i with
    | zero => intro hi; exact h.pos 0 hi
    | succ i ih =>
      intro hi
      have h1 := ih (by omega)
      have h2 := h.rise i (i + 1) (by omega) hi
      omega
  rcases Nat.eq_zero_or_pos O.n with h0 | h0
  · omega
  · have h1 := key (O.n - 1) (by omega)
    have h2 := h.lt hL (O.n - 1) (by omega)
    omega
theorem IsSum.re {L O O' : Lst} (h : IsSum L O) (hn : O'.n = O.n) (hV : O'.V = O.V) (hK : O'.K = O.K) : IsSum L O' := by
  refine ⟨fun i hi => ?_, fun i j hi hj => ?_, fun i hi => ?_, fun i hi => ?_, fun v hv hk => ?_⟩
  · rw [hV]; exact h.pos i (by rw [← hn]; exact hi)
  · rw [hV]; exact h.rise i j hi (by rw [← hn]; exact hj)
  · rw [hK]; exact h.nz i (by rw [← hn]; exact hi)
  · rw [hK, hV]; exact h.coef i (by rw [← hn]; exact hi)
  · obtain ⟨i, h1, h2⟩ := h.all v hv hk
    exact ⟨i, by rw [hn]; exact h1, by rw [hV]; exact h2⟩
/-- What i rows that were copied are. -/
structure DonI (wr : World) (gR m i : Nat) (R R' : Nat → Nat → Lst) : Prop where
  sto : Sto wr 63 3 gR m (i * 3) (rowF R')
  ok : ∀ a b, (R' a b).Ok
  same : ∀ a, a < i → ∀ b, b < 3 → (R' a b).n = (R a b).n ∧ (R' a b).V = (R a b).V ∧ (R' a b).K = (R a b).K
  at_ : ∀ a, a < i → ∀ b, b < 3 → (R' a b).At wr.heap.size wr
  new : ∀ a, a < i → ∀ b, b < 3 → ∀ x, (R' a b).ad = some x → gR < x.block ∧ x.block < wr.heap.size ∧ ∀ o, wr.frozen? ⟨x.block, o, none⟩ = false
theorem DonI.on {wr w' : World} {gR m i : Nat} {R R' : Nat → Nat → Lst} (h : DonI wr gR m i R R') (hb : Below wr.heap.size wr w') : DonI w' gR m i R R' :=
  ⟨h.sto.on hb, h.ok, h.same, fun a ha b hb' => TrmsAt.to (h.at_ a ha b hb') hb (Nat.le_refl _), fun a ha b hb' x hx => ⟨(h.new a ha b hb' x hx).1, Nat.lt_of_lt_of_le (h.new a ha b hb' x hx).2.1 hb.size, fun o => by rw [(bcell hb).2 x.block o (h.new a ha b hb' x hx).2.1]; exact (h.new a ha b hb' x hx).2.2 o⟩⟩
/-- One row more. -/
theorem DonI.put {wr : World} {gR m i : Nat} {R R' : Nat → Nat → Lst} (h : DonI wr gR m i R R') (hi : i < m) {B : Nat} (hB : gR < B) {M0 M1 M2 : Lst} (c0 : Cloned B wr (R i 0) M0) (c1 : Cloned B wr (R i 1) M1) (c2 : Cloned B wr (R i 2) M2) :
    DonI (((wr.setCell ⟨gR, i * 3, none⟩ M0.val).setCell ⟨gR, i * 3 + 1, none⟩ M1.val).setCell ⟨gR, i * 3 + 2, none⟩ M2.val) gR m (i + 1) R (putR i M0 M1 M2 R') := by
  have pA : ∀ a, a < i → putR i M0 M1 M2 R' a = R' a := fun a ha => if_neg (by omega)
  have pI : putR i M0 M1 M2 R' i = row3 M0 M1 M2 := if_pos rfl
  have e : ∀ a b, a < i + 1 → b < 3 → (a < i ∧ putR i M0 M1 M2 R' a b = R' a b) ∨ (a = i ∧ ((b = 0 ∧ putR i M0 M1 M2 R' a b = M0) ∨ (b = 1 ∧ putR i M0 M1 M2 R' a b = M1) ∨ (b = 2 ∧ putR i M0 M1 M2 R' a b = M2))) := fun a b ha hb => by
    rcases Nat.lt_or_ge a i with h1 | h1
    · exact Or.inl ⟨h1, by rw [pA a h1]⟩
    · obtain rfl : a = i := by omega
      refine Or.inr ⟨rfl, ?_⟩
      obtain rfl | rfl | rfl : b = 0 ∨ b = 1 ∨ b = 2 := by omega
      · exact Or.inl ⟨rfl, by rw [pI]; rfl⟩
      · exact Or.inr (Or.inl ⟨rfl, by rw [pI]; rfl⟩)
      · exact Or.inr (Or.inr ⟨rfl, by rw [pI]; rfl⟩)
  have kk : KeepO (fun k => k = gR) wr (((wr.setCell ⟨gR, i * 3, none⟩ M0.val).setCell ⟨gR, i * 3 + 1, none⟩ M1.val).setCell ⟨gR, i * 3 + 2, none⟩ M2.val) := ((KeepO.setCell (O := fun k => k = gR) wr gR _ _ rfl).trans (KeepO.setCell (O := fun k => k = gR) _ gR _ _ rfl) fun _ _ h => h).trans (KeepO.setCell (O := fun k => k = gR) _ gR _ _ rfl) fun _ _ h => h
  have atk : ∀ {L : Lst}, L.At wr.heap.size wr → (∀ x, L.ad = some x → gR < x.block) → L.At (((wr.setCell ⟨gR, i * 3, none⟩ M0.val).setCell ⟨gR, i * 3 + 1, none⟩ M1.val).setCell ⟨gR, i * 3 + 2, none⟩ M2.val).heap.size (((wr.setCell ⟨gR, i * 3, none⟩ M0.val).setCell ⟨gR, i * 3 + 1, none⟩ M1.val).setCell ⟨gR, i * 3 + 2, none⟩ M2.val) := fun {L} hL hx => by
    rcases hL with h | ⟨g, off, h1, h2, h3⟩
    · exact Or.inl h
    · exact Or.inr ⟨g, off, h1, Nat.lt_of_lt_of_le h2 kk.size, trms_keep h3 kk fun e => by have := hx _ h1; have e' : g = gR := e; dsimp only at this; omega⟩
  have fzk : ∀ {x : Addr}, x.block < wr.heap.size → gR < x.block → ∀ o, wr.frozen? ⟨x.block, o, none⟩ = false → (((wr.setCell ⟨gR, i * 3, none⟩ M0.val).setCell ⟨gR, i * 3 + 1, none⟩ M1.val).setCell ⟨gR, i * 3 + 2, none⟩ M2.val).frozen? ⟨x.block, o, none⟩ = false := fun {x} h1 h2 o h3 => (kk.frozen h1 (fun e => by have e' : x.block = gR := e; omega)).trans h3
  refine ⟨?_, fun a b => ?_, fun a ha b hb => ?_, fun a ha b hb => ?_, fun a ha b hb x hx => ?_⟩
  · have s0 := h.sto.congr (f' := rowF (putR i M0 M1 M2 R')) fun j hj => by
      unfold rowF
      rw [pA (j / 3) (by omega)]
    have s1 := s0.set (u := M0.val) (by omega) (by have e := rowF_at (putR i M0 M1 M2 R') i 0 (by decide); rw [pI] at e; exact e)
    have s2 := s1.set (u := M1.val) (by omega) (by have e := rowF_at (putR i M0 M1 M2 R') i 1 (by decide); rw [pI] at e; exact e)
    have s3 := s2.set (u := M2.val) (by omega) (by have e := rowF_at (putR i M0 M1 M2 R') i 2 (by decide); rw [pI] at e; exact e)
    rw [show i * 3 + 1 + 1 + 1 = (i + 1) * 3 by omega] at s3
    exact s3
  · by_cases h1 : a = i
    · subst h1
      rw [pI]
      exact row3_all (P := fun L => L.Ok) c0.ok c1.ok c2.ok b
    · rw [show putR i M0 M1 M2 R' a = R' a from if_neg h1]
      exact h.ok a b
  · rcases e a b ha hb with ⟨h1, h2⟩ | ⟨rfl, ⟨rfl, h2⟩ | ⟨rfl, h2⟩ | ⟨rfl, h2⟩⟩
    · rw [h2]; exact h.same a h1 b hb
    · rw [h2]; exact ⟨c0.n, c0.V, c0.K⟩
    · rw [h2]; exact ⟨c1.n, c1.V, c1.K⟩
    · rw [h2]; exact ⟨c2.n, c2.V, c2.K⟩
  · rcases e a b ha hb with ⟨h1, h2⟩ | ⟨rfl, ⟨rfl, h2⟩ | ⟨rfl, h2⟩ | ⟨rfl, h2⟩⟩
    · rw [h2]; exact atk (h.at_ a h1 b hb) fun x hx => (h.new a h1 b hb x hx).1
    · rw [h2]; exact atk c0.at_ fun x hx => Nat.lt_of_lt_of_le hB (c0.new x hx).1
    · rw [h2]; exact atk c1.at_ fun x hx => Nat.lt_of_lt_of_le hB (c1.new x hx).1
    · rw [h2]; exact atk c2.at_ fun x hx => Nat.lt_of_lt_of_le hB (c2.new x hx).1
  · have fin : gR < x.block → x.block < wr.heap.size → (∀ o, wr.frozen? ⟨x.block, o, none⟩ = false) → gR < x.block ∧ x.block < (((wr.setCell ⟨gR, i * 3, none⟩ M0.val).setCell ⟨gR, i * 3 + 1, none⟩ M1.val).setCell ⟨gR, i * 3 + 2, none⟩ M2.val).heap.size ∧ ∀ o, (((wr.setCell ⟨gR, i * 3, none⟩ M0.val).setCell ⟨gR, i * 3 + 1, none⟩ M1.val).setCell ⟨gR, i * 3 + 2, none⟩ M2.val).frozen? ⟨x.block, o, none⟩ = false := fun h1 h2 h3 => ⟨h1, Nat.lt_of_lt_of_le h2 kk.size, fun o => fzk h2 h1 o (h3 o)⟩
    rcases e a b ha hb with ⟨h1, h2⟩ | ⟨rfl, ⟨rfl, h2⟩ | ⟨rfl, h2⟩ | ⟨rfl, h2⟩⟩
    · rw [h2] at hx; have q := h.new a h1 b hb x hx; exact fin q.1 q.2.1 q.2.2
    · rw [h2] at hx; have q := c0.new x hx; exact fin (Nat.lt_of_lt_of_le hB q.1) q.2.1 q.2.2
    · rw [h2] at hx; have q := c1.new x hx; exact fin (Nat.lt_of_lt_of_le hB q.1) q.2.1 q.2.2
    · rw [h2] at hx; have q := c2.new x hx; exact fin (Nat.lt_of_lt_of_le hB q.1) q.2.1 q.2.2
set_option maxRecDepth 8000 in
set_option maxHeartbeats 16000000 in
theorem kDoneW (r : Nat → Nat) (b : Nat) (S : Mk) (hG : S.Good) (hn : S.n ≤ 3000) (hm : S.m ≤ 3000) (w : World) (h : GMd r w b S) :
    Calls Try.prog 15 #[.pointer (some ⟨b, 0, none⟩)] w fun e w' => ∃ a c R x d, e = .returned (.tuple #[rankV (S.n : Nat) (S.pub : Nat) a S.m c, .slice (some ⟨x, 0, none⟩) S.n d]) ∧ Below w.heap.size w w' ∧
      NewSys w.heap.size (fun k => r k ≠ 0) w' a S.m R ∧ SysOf S R ∧ S.n ≤ d ∧ Wds w' x 0 S.n S.v ∧ w.heap.size ≤ x ∧ (∀ o, w'.frozen? ⟨x, o, none⟩ = false) ∧ (∀ y, a = some y → y.block ≠ x) ∧ ∀ i, i < S.m → ∀ j, j < 3 → ∀ y, (R i j).ad = some y → 0 < (R i j).n → y.block ≠ x := by
  have h' : Hid (GMd r w b S) := h
  obtain ⟨vr, vv, R, t, hS, hO⟩ := h
  have t' : Hid (GadP r w b (S.pub : Nat) vr vv S.m R S.n S.v) := t
  have hS' : Hid (SysOf S R) := hS
  have hO' : Hid (∀ i, i < S.m → ∀ j, j < 3 → (R i j).Ok) := hO
  have c2 := t.c2
  have hblt := t.blt
  obtain ⟨ar, cr, rfl, hr1, hr2, rR⟩ := OwnR.rows (w := w) (base := 0) (v := vr) (n := S.m) (R := R) t.rows (fun i hi j hj => (t.lsts i hi j hj).at_)
  have rR' : Hid (RowsAt w.heap.size w ar S.m R) := rR
  have hA0 : Below w.heap.size w (w.alloc (.cells #[.int .i64 0, .int .i64 0, .slice none 0 0] 29)) := (Below.refl _ _).alloc (Nat.le_refl _) _
  obtain ⟨W1, hmk, hs0, hB1⟩ := make_rows S.m (by omega) (w.alloc (.cells #[.int .i64 0, .int .i64 0, .slice none 0 0] 29)) (rowF fun _ _ => ⟨none, 0, 0, fun _ => 0, fun _ => 0⟩)
  have hst : Hid (DonI W1 (w.heap.size + 1) S.m 0 R fun _ _ => ⟨none, 0, 0, fun _ => 0, fun _ => 0⟩) := ⟨by
    have e : (w.alloc (.cells #[.int .i64 0, .int .i64 0, .slice none 0 0] 29)).heap.size = w.heap.size + 1 := by simp
    rw [e] at hs0
    exact hs0, fun _ _ => nil_ok, fun a ha => absurd ha (Nat.not_lt_zero _), fun a ha => absurd ha (Nat.not_lt_zero _), fun a ha => absurd ha (Nat.not_lt_zero _)⟩
  have hBW : Below w.heap.size w W1 := Below.trans hA0 (hB1.mono (by simp))
  have hT0 : Three (w.alloc (.cells #[.int .i64 0, .int .i64 0, .slice none 0 0] 29)) w.heap.size (.int .i64 0) (.int .i64 0) (.slice none 0 0) := by (repeat' (first | (with_reducible first | assumption | exact Three.own (by with_reducible assumption) | refine Three.set ?_ _ _ _ | refine Own3.set ?_ _ _ _ | refine Three.drew ?_ | refine Three.drewN ?_ _ | refine Own3.drew ?_ | refine Own3.drewN ?_ _ | (refine Three.new ?_; simp only [szs]; done) | (refine Own3.new ?_; simp only [szs]; done) | refine Three.alloc ?_ _ | refine Own3.alloc ?_ _ | refine Three.far ?_ ?_ _ _ | refine Own3.far ?_ ?_ _ _ | refine Three.via (by with_reducible assumption) ?_ ?_ | refine Own3.via (by with_reducible assumption) ?_ ?_) | omega | (simp only [szs]; omega)))
  have hN : Hid (Own3 W1 w.heap.size) := ⟨_, _, _, hT0.below hB1 hT0.lt⟩
  clear hT0
  clear t hS hO rR hs0
  go_enter Try.func15, Try.ntmps15
  go_upto_region 2 with (fail)
  clear hmk hB1 hA0
  have d2 := (t'.out.below hBW).c2
  go_wp2
  clear d2 c2
  obtain ⟨gR, hgR⟩ : ∃ gR, Hid (w.heap.size + 1 = gR) := ⟨_, rfl⟩
  rw [hgR.out] at hst ⊢
  go_loopw [18] (fun si wr => ∃ (i : Nat) (R' : Nat → Nat → Lst), i ≤ S.m ∧ si = .int .i64 i ∧ Below w.heap.size w wr ∧ Hid (Own3 wr w.heap.size) ∧ Hid (DonI wr gR S.m i R R')) (fun si _ => S.m - (intOf si).toNat)
  case atStart => exact ⟨0, _, by omega, rfl, hBW, hN, hst⟩
  case round =>
    clear hst hBW hN
    obtain ⟨i, R', hi, rfl, hB, hN, hD⟩ := hrel
    have zB := hB.size
    by_cases hlt : i < S.m
    · have hlt' : (i : Int) < (S.m : Int) := by omega
      have hi0 : (0 : Int) ≤ (i : Int) := by omega
      rcases (rR'.out.below hB) with hz | ⟨b0, off, hb, tb⟩
      · omega
      rw [hb]
      have d0 := tb.cell i hlt 0 (by decide)
      have d1 := tb.cell i hlt 1 (by decide)
      have d2 := tb.cell i hlt 2 (by decide)
      have o0 : Hid ((R i 0).At w.heap.size wr ∧ (R i 1).At w.heap.size wr ∧ (R i 2).At w.heap.size wr) := ⟨tb.at_ i hlt 0 (by decide), tb.at_ i hlt 1 (by decide), tb.at_ i hlt 2 (by decide)⟩
      have k0 : Hid ((R i 0).Ok ∧ (R i 1).Ok ∧ (R i 2).Ok) := ⟨hO'.out i hlt 0 (by decide), hO'.out i hlt 1 (by decide), hO'.out i hlt 2 (by decide)⟩
      clear tb hb
      rw [Nat.add_zero] at d0
      unfold Lst.val at d0 d1 d2
      have l0 : Hid ((R i 0).n ≤ 1000000 ∧ (R i 1).n ≤ 1000000 ∧ (R i 2).n ≤ 1000000) := by
        have q := fun j hj => (hS'.out.sum i hlt j hj).len (hG.rows i hlt j)
        have q0 := q 0 (by decide); have q1 := q 1 (by decide); have q2 := q 2 (by decide)
        exact ⟨by omega, by omega, by omega⟩
      go_upto_region 5 with (fail)
      have hA4 : Below wr.heap.size wr (wr.alloc (.cells #[.slice (R i 0).ad (R i 0).n (R i 0).c, .slice (R i 1).ad (R i 1).n (R i 1).c, .slice (R i 2).ad (R i 2).n (R i 2).c] 63)) := (Below.refl _ _).alloc (Nat.le_refl _) _
      have hB4 : Hid (Below w.heap.size w (wr.alloc (.cells #[.slice (R i 0).ad (R i 0).n (R i 0).c, .slice (R i 1).ad (R i 1).n (R i 1).c, .slice (R i 2).ad (R i 2).n (R i 2).c] 63))) := below_via hA4 hB zB
      have hD4 : Hid (DonI (wr.alloc (.cells #[.slice (R i 0).ad (R i 0).n (R i 0).c, .slice (R i 1).ad (R i 1).n (R i 1).c, .slice (R i 2).ad (R i 2).n (R i 2).c] 63)) gR S.m i R R') := hD.out.on hA4
      have t4 : Hid (Three (wr.alloc (.cells #[.slice (R i 0).ad (R i 0).n (R i 0).c, .slice (R i 1).ad (R i 1).n (R i 1).c, .slice (R i 2).ad (R i 2).n (R i 2).c] 63)) wr.heap.size (.slice (R i 0).ad (R i 0).n (R i 0).c) (.slice (R i 1).ad (R i 1).n (R i 1).c) (.slice (R i 2).ad (R i 2).n (R i 2).c)) := by show Three _ _ _ _ _; (repeat' (first | (with_reducible first | assumption | exact Three.own (by with_reducible assumption) | refine Three.set ?_ _ _ _ | refine Own3.set ?_ _ _ _ | refine Three.drew ?_ | refine Three.drewN ?_ _ | refine Own3.drew ?_ | refine Own3.drewN ?_ _ | (refine Three.new ?_; simp only [szs]; done) | (refine Own3.new ?_; simp only [szs]; done) | refine Three.alloc ?_ _ | refine Own3.alloc ?_ _ | refine Three.far ?_ ?_ _ _ | refine Own3.far ?_ ?_ _ _ | refine Three.via (by with_reducible assumption) ?_ ?_ | refine Own3.via (by with_reducible assumption) ?_ ?_) | omega | (simp only [szs]; omega)))
      have o4 : Hid ((R i 0).At (wr.alloc (.cells #[.slice (R i 0).ad (R i 0).n (R i 0).c, .slice (R i 1).ad (R i 1).n (R i 1).c, .slice (R i 2).ad (R i 2).n (R i 2).c] 63)).heap.size (wr.alloc (.cells #[.slice (R i 0).ad (R i 0).n (R i 0).c, .slice (R i 1).ad (R i 1).n (R i 1).c, .slice (R i 2).ad (R i 2).n (R i 2).c] 63)) ∧ (R i 1).At (wr.alloc (.cells #[.slice (R i 0).ad (R i 0).n (R i 0).c, .slice (R i 1).ad (R i 1).n (R i 1).c, .slice (R i 2).ad (R i 2).n (R i 2).c] 63)).heap.size (wr.alloc (.cells #[.slice (R i 0).ad (R i 0).n (R i 0).c, .slice (R i 1).ad (R i 1).n (R i 1).c, .slice (R i 2).ad (R i 2).n (R i 2).c] 63)) ∧ (R i 2).At (wr.alloc (.cells #[.slice (R i 0).ad (R i 0).n (R i 0).c, .slice (R i 1).ad (R i 1).n (R i 1).c, .slice (R i 2).ad (R i 2).n (R i 2).c] 63)).heap.size (wr.alloc (.cells #[.slice (R i 0).ad (R i 0).n (R i 0).c, .slice (R i 1).ad (R i 1).n (R i 1).c, .slice (R i 2).ad (R i 2).n (R i 2).c] 63))) := ⟨TrmsAt.to o0.out.1 (hA4.mono zB) zB, TrmsAt.to o0.out.2.1 (hA4.mono zB) zB, TrmsAt.to o0.out.2.2 (hA4.mono zB) zB⟩
      have gW : Hid (gR < wr.heap.size) := hD.out.sto.lt
      have hN4 : Hid (Own3 (wr.alloc (.cells #[.slice (R i 0).ad (R i 0).n (R i 0).c, .slice (R i 1).ad (R i 1).n (R i 1).c, .slice (R i 2).ad (R i 2).n (R i 2).c] 63)) w.heap.size) := by
        obtain ⟨x, y, z, t⟩ := hN.out
        exact ⟨x, y, z, t.below hA4 t.lt⟩
      have hgw : Hid (w.heap.size ≤ gR) := by show _ ≤ _; have := hgR.out; omega
      generalize (wr.alloc (.cells #[.slice (R i 0).ad (R i 0).n (R i 0).c, .slice (R i 1).ad (R i 1).n (R i 1).c, .slice (R i 2).ad (R i 2).n (R i 2).c] 63)) = W4 at *
      have zW4 := hA4.size
      have gW4 : Hid (gR < W4.heap.size) := Nat.lt_of_lt_of_le gW.out zW4
      generalize wr.heap.size = N at *
      have hkeep : Hid (∀ W, Below W4.heap.size W4 W → (fun w' => w'.cell? ⟨N, 0, none⟩ = some (.slice (R i 0).ad (R i 0).n (R i 0).c) ∧ w'.cell? ⟨N, 1, none⟩ = some (.slice (R i 1).ad (R i 1).n (R i 1).c) ∧ w'.cell? ⟨N, 2, none⟩ = some (.slice (R i 2).ad (R i 2).n (R i 2).c)) W) := fun W hW =>
        have t := t4.out.below hW t4.out.lt
        ⟨t.c0, t.c1, t.c2⟩
      have q0 : ∀ W, Below W4.heap.size W4 W → _ := fun W (hW : Below W4.heap.size W4 W) => kcloneT (R i 0) k0.out.1 l0.out.1 W (TrmsAt.to o4.out.1 hW (Nat.le_refl _))
      have q1 : ∀ W, Below W4.heap.size W4 W → _ := fun W (hW : Below W4.heap.size W4 W) => kcloneT (R i 1) k0.out.2.1 l0.out.2.1 W (TrmsAt.to o4.out.2.1 hW (Nat.le_refl _))
      have q2 : ∀ W, Below W4.heap.size W4 W → _ := fun W (hW : Below W4.heap.size W4 W) => kcloneT (R i 2) k0.out.2.2 l0.out.2.2 W (TrmsAt.to o4.out.2.2 hW (Nat.le_refl _))
      unfold Lst.val at q0 q1 q2
      clear hB d0 d1 d2 hD hA4 zB o0 zW4 hN
      refine wp_region_noPanic ?_
      refine region_lastly (S := (fun w' => w'.cell? ⟨N, 0, none⟩ = some (.slice (R i 0).ad (R i 0).n (R i 0).c) ∧ w'.cell? ⟨N, 1, none⟩ = some (.slice (R i 1).ad (R i 1).n (R i 1).c) ∧ w'.cell? ⟨N, 2, none⟩ = some (.slice (R i 2).ad (R i 2).n (R i 2).c))) [13] (by kernel_rfl) (by ((try dsimp only); (exact hkeep.out _ (by (repeat' (first | (with_reducible first | exact Below.refl _ _ | assumption | refine Below.alloc ?_ ?_ _ | refine Below.drew ?_ | refine below_drewN ?_ _ | refine Below.setCell ?_ ?_ _ | refine below_via (by with_reducible assumption) ?_ ?_) | omega | (simp only [szs]; omega) | (simp only [szs] at *; omega))))))) (fun hHeld => ?_)
      refine anyZ_free (i := 0) (oi := ?oi_1) (v := ?v_1) ?hi_1 ?hs_1 ?hf_1 ?hr_1 ?hQ_1 (Or.inl ⟨?hw_1, ?hy_1⟩) ?hrest_1
      case hi_1 => (simp only [List.getElem?_toArray, List.getElem?_cons_succ, List.getElem?_cons_zero]; exact rfl)
      case hs_1 => kernel_rfl
      case hf_1 => kernel_rfl
      case hr_1 => kernel_rfl
      case hQ_1 => exact fun _ _ _ h => h
      case hw_1 => rfl
      case hy_1 => (intro w _; go_simp; try with_reducible rfl)
      try simp only [Act.put, List.setIfInBounds_toArray, List.set_cons_zero, List.set_cons_succ]
      refine anyZ_free (i := 1) (oi := ?oi_2) (v := ?v_2) ?hi_2 ?hs_2 ?hf_2 ?hr_2 ?hQ_2 (Or.inl ⟨?hw_2, ?hy_2⟩) ?hrest_2
      case hi_2 => (simp only [List.getElem?_toArray, List.getElem?_cons_succ, List.getElem?_cons_zero]; exact rfl)
      case hs_2 => kernel_rfl
      case hf_2 => kernel_rfl
      case hr_2 => kernel_rfl
      case hQ_2 => exact fun _ _ _ h => h
      case hw_2 => rfl
      case hy_2 => (intro w _; go_simp; try with_reducible rfl)
      try simp only [Act.put, List.setIfInBounds_toArray, List.set_cons_zero, List.set_cons_succ]
      refine anyZ_free (i := 2) (oi := ?oi_3) (v := ?v_3) ?hi_3 ?hs_3 ?hf_3 ?hr_3 ?hQ_3 (Or.inl ⟨?hw_3, ?hy_3⟩) ?hrest_3
      case hi_3 => (simp only [List.getElem?_toArray, List.getElem?_cons_succ, List.getElem?_cons_zero]; exact rfl)
      case hs_3 => kernel_rfl
      case hf_3 => kernel_rfl
      case hr_3 => kernel_rfl
      case hQ_3 => exact fun _ _ _ h => h
      case hw_3 => rfl
      case hy_3 => (intro w _; go_simp; try with_reducible rfl)
      try simp only [Act.put, List.setIfInBounds_toArray, List.set_cons_zero, List.set_cons_succ]
      refine anyZ_take (i := 3) (oi := ?oi_4) (v := ?v_4) ?hi_4 ?hz_4 ?hs_4 ?hf_4 ?hr_4 ?hQ_4 (Or.inl ⟨?hw_4, ?hy_4⟩) ?hS_4 ?hrest_4
      case hi_4 => (simp only [List.getElem?_toArray, List.getElem?_cons_succ, List.getElem?_cons_zero]; exact rfl)
      case hz_4 => kernel_rfl
      case hs_4 => kernel_rfl
      case hf_4 => kernel_rfl
      case hr_4 => kernel_rfl
      case hQ_4 => exact fun _ _ _ h => h
      case hw_4 => rfl
      case hS_4 => assumption
      case hy_4 => (intro w hSw; (try dsimp only at hSw); go_simp; try with_reducible rfl)
      try simp only [Act.put, List.setIfInBounds_toArray, List.set_cons_zero, List.set_cons_succ]
      refine anyZ_free (i := 5) (oi := ?oi_5) (v := ?v_5) ?hi_5 ?hs_5 ?hf_5 ?hr_5 ?hQ_5 (Or.inl ⟨?hw_5, ?hy_5⟩) ?hrest_5
      case hi_5 => (simp only [List.getElem?_toArray, List.getElem?_cons_succ, List.getElem?_cons_zero]; exact rfl)
      case hs_5 => kernel_rfl
      case hf_5 => kernel_rfl
      case hr_5 => kernel_rfl
      case hQ_5 => exact fun _ _ _ h => h
      case hw_5 => rfl
      case hy_5 => (intro w _; go_simp; try with_reducible rfl)
      try simp only [Act.put, List.setIfInBounds_toArray, List.set_cons_zero, List.set_cons_succ]
      refine anyZ_take (i := 6) (oi := ?oi_6) (v := ?v_6) ?hi_6 ?hz_6 ?hs_6 ?hf_6 ?hr_6 ?hQ_6 (Or.inl ⟨?hw_6, ?hy_6⟩) ?hS_6 ?hrest_6
      case hi_6 => (simp only [List.getElem?_toArray, List.getElem?_cons_succ, List.getElem?_cons_zero]; exact rfl)
      case hz_6 => kernel_rfl
      case hs_6 => kernel_rfl
      case hf_6 => kernel_rfl
      case hr_6 => kernel_rfl
      case hQ_6 => exact fun _ _ _ h => h
      case hw_6 => rfl
      case hS_6 => assumption
      case hy_6 => (intro w hSw; (try dsimp only at hSw); go_simp; try with_reducible rfl)
      try simp only [Act.put, List.setIfInBounds_toArray, List.set_cons_zero, List.set_cons_succ]
      refine anyZ_free (i := 8) (oi := ?oi_7) (v := ?v_7) ?hi_7 ?hs_7 ?hf_7 ?hr_7 ?hQ_7 (Or.inl ⟨?hw_7, ?hy_7⟩) ?hrest_7
      case hi_7 => (simp only [List.getElem?_toArray, List.getElem?_cons_succ, List.getElem?_cons_zero]; exact rfl)
      case hs_7 => kernel_rfl
      case hf_7 => kernel_rfl
      case hr_7 => kernel_rfl
      case hQ_7 => exact fun _ _ _ h => h
      case hw_7 => rfl
      case hy_7 => (intro w _; go_simp; try with_reducible rfl)
      try simp only [Act.put, List.setIfInBounds_toArray, List.set_cons_zero, List.set_cons_succ]
      refine anyZ_take (i := 9) (oi := ?oi_8) (v := ?v_8) ?hi_8 ?hz_8 ?hs_8 ?hf_8 ?hr_8 ?hQ_8 (Or.inl ⟨?hw_8, ?hy_8⟩) ?hS_8 ?hrest_8
      case hi_8 => (simp only [List.getElem?_toArray, List.getElem?_cons_succ, List.getElem?_cons_zero]; exact rfl)
      case hz_8 => kernel_rfl
      case hs_8 => kernel_rfl
      case hf_8 => kernel_rfl
      case hr_8 => kernel_rfl
      case hQ_8 => exact fun _ _ _ h => h
      case hw_8 => rfl
      case hS_8 => assumption
      case hy_8 => (intro w hSw; (try dsimp only at hSw); go_simp; try with_reducible rfl)
      try simp only [Act.put, List.setIfInBounds_toArray, List.set_cons_zero, List.set_cons_succ]
      refine anyZ_ready (rs := [4]) (by kernel_rfl) (by simp) ?_
      refine (AllZ.cons (o := ?o_9) ?ho_9 (fun K hK => ?st_9) AllZ.nil)
      case ho_9 => (simp only [List.getElem?_toArray, List.getElem?_cons_succ, List.getElem?_cons_zero]; exact rfl)
      case st_9 =>
        go_simp
        (go_at_call 44; (with_reducible refine (q0 _ (by (repeat' (first | (with_reducible first | exact Below.refl _ _ | assumption | refine Below.alloc ?_ ?_ _ | refine Below.drew ?_ | refine below_drewN ?_ _ | refine Below.setCell ?_ ?_ _ | refine below_via (by with_reducible assumption) ?_ ?_) | omega | (simp only [szs]; omega) | (simp only [szs] at *; omega))))).mono ?_); rintro e w5 ⟨M0, rfl, m0, b5⟩; have m0' : Hid (Cloned W4.heap.size w5 (R i 0) M0) := m0; clear m0; have z5 := b5.size; (try simp only [szs] at z5))
        refine hK.out _ _ (by ((try dsimp only); (exact hkeep.out _ (by (repeat' (first | (with_reducible first | exact Below.refl _ _ | assumption | refine Below.alloc ?_ ?_ _ | refine Below.drew ?_ | refine below_drewN ?_ _ | refine Below.setCell ?_ ?_ _ | refine below_via (by with_reducible assumption) ?_ ?_) | omega | (simp only [szs]; omega) | (simp only [szs] at *; omega))))))) (fun hHeld => ?_)
        clear hK K
        try simp only [Act.put, List.setIfInBounds_toArray, List.set_cons_zero, List.set_cons_succ]
        refine anyZ_ready (rs := [7]) (by kernel_rfl) (by simp) ?_
        refine (AllZ.cons (o := ?o_10) ?ho_10 (fun K hK => ?st_10) AllZ.nil)
        case ho_10 => (simp only [List.getElem?_toArray, List.getElem?_cons_succ, List.getElem?_cons_zero]; exact rfl)
        case st_10 =>
          go_simp
          (go_at_call 44; (with_reducible refine (q1 _ (by (repeat' (first | (with_reducible first | exact Below.refl _ _ | assumption | refine Below.alloc ?_ ?_ _ | refine Below.drew ?_ | refine below_drewN ?_ _ | refine Below.setCell ?_ ?_ _ | refine below_via (by with_reducible assumption) ?_ ?_) | omega | (simp only [szs]; omega) | (simp only [szs] at *; omega))))).mono ?_); rintro e w6 ⟨M1, rfl, m1, b6⟩; have m1' : Hid (Cloned w5.heap.size w6 (R i 1) M1) := m1; clear m1; have z6 := b6.size; (try simp only [szs] at z6))
          refine hK.out _ _ (by ((try dsimp only); (exact hkeep.out _ (by (repeat' (first | (with_reducible first | exact Below.refl _ _ | assumption | refine Below.alloc ?_ ?_ _ | refine Below.drew ?_ | refine below_drewN ?_ _ | refine Below.setCell ?_ ?_ _ | refine below_via (by with_reducible assumption) ?_ ?_) | omega | (simp only [szs]; omega) | (simp only [szs] at *; omega))))))) (fun hHeld => ?_)
          clear hK K
          try simp only [Act.put, List.setIfInBounds_toArray, List.set_cons_zero, List.set_cons_succ]
          refine anyZ_ready (rs := [10]) (by kernel_rfl) (by simp) ?_
          refine (AllZ.cons (o := ?o_11) ?ho_11 (fun K hK => ?st_11) AllZ.nil)
          case ho_11 => (simp only [List.getElem?_toArray, List.getElem?_cons_succ, List.getElem?_cons_zero]; exact rfl)
          case st_11 =>
            go_simp
            (go_at_call 44; (with_reducible refine (q2 _ (by (repeat' (first | (with_reducible first | exact Below.refl _ _ | assumption | refine Below.alloc ?_ ?_ _ | refine Below.drew ?_ | refine below_drewN ?_ _ | refine Below.setCell ?_ ?_ _ | refine below_via (by with_reducible assumption) ?_ ?_) | omega | (simp only [szs]; omega) | (simp only [szs] at *; omega))))).mono ?_); rintro e w7 ⟨M2, rfl, m2, b7⟩; have m2' : Hid (Cloned w6.heap.size w7 (R i 2) M2) := m2; clear m2; have z7 := b7.size; (try simp only [szs] at z7); have hB7 : Below W4.heap.size W4 w7 := (by (repeat' (first | (with_reducible first | exact Below.refl _ _ | assumption | refine Below.alloc ?_ ?_ _ | refine Below.drew ?_ | refine below_drewN ?_ _ | refine Below.setCell ?_ ?_ _ | refine below_via (by with_reducible assumption) ?_ ?_) | omega | (simp only [szs]; omega) | (simp only [szs] at *; omega)))); have hD7 : Hid (DonI w7 gR S.m i R R') := hD4.out.on hB7; obtain ⟨e0, he0⟩ := hD7.out.sto.any (j := i * 3) (by omega); obtain ⟨e1, he1⟩ := hD7.out.sto.any (j := i * 3 + 1) (by omega); obtain ⟨e2, he2⟩ := hD7.out.sto.any (j := i * 3 + 2) (by omega); have fz0 := hD7.out.sto.fz (i * 3); have fz1 := hD7.out.sto.fz (i * 3 + 1); have fz2 := hD7.out.sto.fz (i * 3 + 2))
            refine hK.out _ _ (by ((try dsimp only); (exact hkeep.out _ (by (repeat' (first | (with_reducible first | exact Below.refl _ _ | assumption | refine Below.alloc ?_ ?_ _ | refine Below.drew ?_ | refine below_drewN ?_ _ | refine Below.setCell ?_ ?_ _ | refine below_via (by with_reducible assumption) ?_ ?_) | omega | (simp only [szs]; omega) | (simp only [szs] at *; omega))))))) (fun hHeld => ?_)
            clear hK K
            try simp only [Act.put, List.setIfInBounds_toArray, List.set_cons_zero, List.set_cons_succ]
            refine anyZ_free (i := 11) (oi := ?oi_12) (v := ?v_12) ?hi_12 ?hs_12 ?hf_12 ?hr_12 ?hQ_12 (Or.inl ⟨?hw_12, ?hy_12⟩) ?hrest_12
            case hi_12 => (simp only [List.getElem?_toArray, List.getElem?_cons_succ, List.getElem?_cons_zero]; exact rfl)
            case hs_12 => kernel_rfl
            case hf_12 => kernel_rfl
            case hr_12 => kernel_rfl
            case hQ_12 => exact fun _ _ _ h => h
            case hw_12 => rfl
            case hy_12 => (intro w _; go_simp; try with_reducible rfl)
            try simp only [Act.put, List.setIfInBounds_toArray, List.set_cons_zero, List.set_cons_succ]
            refine anyZ_free (i := 12) (oi := ?oi_13) (v := ?v_13) ?hi_13 ?hs_13 ?hf_13 ?hr_13 ?hQ_13 (Or.inl ⟨?hw_13, ?hy_13⟩) ?hrest_13
            case hi_13 => (simp only [List.getElem?_toArray, List.getElem?_cons_succ, List.getElem?_cons_zero]; exact rfl)
            case hs_13 => kernel_rfl
            case hf_13 => kernel_rfl
            case hr_13 => kernel_rfl
            case hQ_13 => exact fun _ _ _ h => h
            case hw_13 => rfl
            case hy_13 => (intro w _; go_simp; try with_reducible rfl)
            try simp only [Act.put, List.setIfInBounds_toArray, List.set_cons_zero, List.set_cons_succ]
            refine anyZ_ready (rs := [13]) (by kernel_rfl) (by simp) ?_
            refine (AllZ.last (o := ?o_14) ?ho_14 (by rfl) (fun K hK => ?st_14) AllZ.nil)
            case ho_14 => (simp only [List.getElem?_toArray, List.getElem?_cons_succ, List.getElem?_cons_zero]; exact rfl)
            case st_14 =>
              go_simp
              refine hK.out _ _ ?_
              clear hK K
              try simp only [Act.put, List.setIfInBounds_toArray, List.set_cons_zero, List.set_cons_succ]
              refine anyZ_done (by kernel_rfl) ?_ _
              refine NoPanic.normal ?_
              have hD8 : Hid (DonI (((w7.setCell ⟨gR, i * 3, none⟩ M0.val).setCell ⟨gR, i * 3 + 1, none⟩ M1.val).setCell ⟨gR, i * 3 + 2, none⟩ M2.val) gR S.m (i + 1) R (putR i M0 M1 M2 R')) := hD7.out.put hlt gW4.out ((m0'.out.on b6).on b7) ((m1'.out.on b7).low z5) (m2'.out.low (by omega))
              have hB8 : Hid (Below w.heap.size w (((w7.setCell ⟨gR, i * 3, none⟩ M0.val).setCell ⟨gR, i * 3 + 1, none⟩ M1.val).setCell ⟨gR, i * 3 + 2, none⟩ M2.val)) := (((below_via hB7 hB4.out hB4.out.size).setCell hgw.out _).setCell hgw.out _).setCell hgw.out _
              have hN8 : Hid (Own3 (((w7.setCell ⟨gR, i * 3, none⟩ M0.val).setCell ⟨gR, i * 3 + 1, none⟩ M1.val).setCell ⟨gR, i * 3 + 2, none⟩ M2.val) w.heap.size) := by
                obtain ⟨x, y, z, t⟩ := hN4.out
                have hne : gR ≠ w.heap.size := by have := hgR.out; omega
                exact ⟨x, y, z, (((t.below hB7 t.lt).far hne _ _).far hne _ _).far hne _ _⟩
              unfold Lst.val at hD8 hB8 hN8
              clear hN4 he0 he1 he2 fz0 fz1 fz2 hD7 hB7 m0' m1' m2' b5 b6 b7 z5 z6 z7 hkeep q0 q1 q2 hD4 hB4 t4 o4
              generalize (((w7.setCell ⟨gR, i * 3, none⟩ (.slice M0.ad M0.n M0.c)).setCell ⟨gR, i * 3 + 1, none⟩ (.slice M1.ad M1.n M1.c)).setCell ⟨gR, i * 3 + 2, none⟩ (.slice M2.ad M2.n M2.c)) = W8 at *
              go_wp2
              go_roundw
              case rel => exact ⟨i + 1, putR i M0 M1 M2 R', by omega, by go_num, hB8.out, hN8, hD8⟩
              case measure => first | (simp [intOf]; done) | (simp [intOf]; omega)
    · obtain rfl : i = S.m := by omega
      have hlt' : ¬ (S.m : Int) < (S.m : Int) := by omega
      have t5 := t'.out.below hB
      obtain ⟨av, cv, rfl, hsrc⟩ := t5.src
      have hn1 := hG.n1
      obtain ⟨ga, oa, rfl, lga, wa⟩ : ∃ g o, av = some ⟨g, o, none⟩ ∧ g < wr.heap.size ∧ Wds wr g o S.n S.v := by
        rcases hsrc with hz | ⟨g, o, h1, h2, h3⟩
        · omega
        · exact ⟨g, o, h1, h2, h3⟩
      have t5' : Hid (GadP r wr b (S.pub : Nat) (.slice ar S.m cr) (.slice (some ⟨ga, oa, none⟩) S.n cv) S.m R S.n S.v) := t5
      have hkeep : Hid (∀ W, Below wr.heap.size wr W → (fun w' => w'.cell? ⟨b, 0, none⟩ = some (.int .i64 (S.pub : Nat)) ∧ w'.cell? ⟨b, 1, none⟩ = some (.slice (some ⟨ga, oa, none⟩) S.n cv)) W) := fun W hW => ⟨(t5'.out.below hW).c0, (t5'.out.below hW).c1⟩
      have hkeep2 : Hid (∀ W, Below wr.heap.size wr W → ∀ x y z, (fun w' => w'.cell? ⟨b, 0, none⟩ = some (.int .i64 (S.pub : Nat)) ∧ w'.cell? ⟨b, 1, none⟩ = some (.slice (some ⟨ga, oa, none⟩) S.n cv)) (((W.setCell ⟨w.heap.size, 0, none⟩ x).setCell ⟨w.heap.size, 1, none⟩ y).setCell ⟨w.heap.size, 2, none⟩ z)) := fun W hW x y z => by
        have hk : KeepO (fun k => k = w.heap.size) W (((W.setCell ⟨w.heap.size, 0, none⟩ x).setCell ⟨w.heap.size, 1, none⟩ y).setCell ⟨w.heap.size, 2, none⟩ z) := ((KeepO.setCell (O := fun k => k = w.heap.size) W _ _ _ rfl).trans (KeepO.setCell (O := fun k => k = w.heap.size) _ _ _ _ rfl) fun _ _ h => h).trans (KeepO.setCell (O := fun k => k = w.heap.size) _ _ _ _ rfl) fun _ _ h => h
        exact ⟨hk.cell (t5'.out.below hW).c0 (fun e => by have e' : b = w.heap.size := e; omega), hk.cell (t5'.out.below hW).c1 (fun e => by have e' : b = w.heap.size := e; omega)⟩
      have hsrc' : Hid (SrcW wr.heap.size wr (some ⟨ga, oa, none⟩) S.n S.v) := hsrc
      have q5 : ∀ W, Below wr.heap.size wr W → _ := fun W (hW : Below wr.heap.size wr W) => kcloneW ⟨ga, oa, none⟩ S.n cv S.v (by omega) W (hsrc'.out.to hW (Nat.le_refl _))
      clear t5 hsrc wa lga
      go_upto_region 7 with (fail)
      refine wp_region_noPanic ?_
      refine region_lastly (S := (fun w' => w'.cell? ⟨b, 0, none⟩ = some (.int .i64 (S.pub : Nat)) ∧ w'.cell? ⟨b, 1, none⟩ = some (.slice (some ⟨ga, oa, none⟩) S.n cv))) [17] (by kernel_rfl) (by ((try dsimp only); (first | exact hkeep2.out _ (by (repeat' (first | (with_reducible first | exact Below.refl _ _ | assumption | refine Below.alloc ?_ ?_ _ | refine Below.drew ?_ | refine below_drewN ?_ _ | refine Below.setCell ?_ ?_ _ | refine below_via (by with_reducible assumption) ?_ ?_) | omega | (simp only [szs]; omega) | (simp only [szs] at *; omega)))) _ _ _ | exact hkeep.out _ (by (repeat' (first | (with_reducible first | exact Below.refl _ _ | assumption | refine Below.alloc ?_ ?_ _ | refine Below.drew ?_ | refine below_drewN ?_ _ | refine Below.setCell ?_ ?_ _ | refine below_via (by with_reducible assumption) ?_ ?_) | omega | (simp only [szs]; omega) | (simp only [szs] at *; omega))))))) (fun hHeld => ?_)
      refine anyZ_free (i := 0) (oi := ?oi_15) (v := ?v_15) ?hi_15 ?hs_15 ?hf_15 ?hr_15 ?hQ_15 (Or.inl ⟨?hw_15, ?hy_15⟩) ?hrest_15
      case hi_15 => (simp only [List.getElem?_toArray, List.getElem?_cons_succ, List.getElem?_cons_zero]; exact rfl)
      case hs_15 => kernel_rfl
      case hf_15 => kernel_rfl
      case hr_15 => kernel_rfl
      case hQ_15 => exact fun _ _ _ h => h
      case hw_15 => rfl
      case hy_15 => (intro w _; go_simp; try with_reducible rfl)
      try simp only [Act.put, List.setIfInBounds_toArray, List.set_cons_zero, List.set_cons_succ]
      refine anyZ_free (i := 1) (oi := ?oi_16) (v := ?v_16) ?hi_16 ?hs_16 ?hf_16 ?hr_16 ?hQ_16 (Or.inl ⟨?hw_16, ?hy_16⟩) ?hrest_16
      case hi_16 => (simp only [List.getElem?_toArray, List.getElem?_cons_succ, List.getElem?_cons_zero]; exact rfl)
      case hs_16 => kernel_rfl
      case hf_16 => kernel_rfl
      case hr_16 => kernel_rfl
      case hQ_16 => exact fun _ _ _ h => h
      case hw_16 => rfl
      case hy_16 => (intro w _; go_simp; try with_reducible rfl)
      try simp only [Act.put, List.setIfInBounds_toArray, List.set_cons_zero, List.set_cons_succ]
      refine anyZ_free (i := 2) (oi := ?oi_17) (v := ?v_17) ?hi_17 ?hs_17 ?hf_17 ?hr_17 ?hQ_17 (Or.inl ⟨?hw_17, ?hy_17⟩) ?hrest_17
      case hi_17 => (simp only [List.getElem?_toArray, List.getElem?_cons_succ, List.getElem?_cons_zero]; exact rfl)
      case hs_17 => kernel_rfl
      case hf_17 => kernel_rfl
      case hr_17 => kernel_rfl
      case hQ_17 => exact fun _ _ _ h => h
      case hw_17 => rfl
      case hy_17 => (intro w _; go_simp; try with_reducible rfl)
      try simp only [Act.put, List.setIfInBounds_toArray, List.set_cons_zero, List.set_cons_succ]
      refine anyZ_take (i := 3) (oi := ?oi_18) (v := ?v_18) ?hi_18 ?hz_18 ?hs_18 ?hf_18 ?hr_18 ?hQ_18 (Or.inl ⟨?hw_18, ?hy_18⟩) ?hS_18 ?hrest_18
      case hi_18 => (simp only [List.getElem?_toArray, List.getElem?_cons_succ, List.getElem?_cons_zero]; exact rfl)
      case hz_18 => kernel_rfl
      case hs_18 => kernel_rfl
      case hf_18 => kernel_rfl
      case hr_18 => kernel_rfl
      case hQ_18 => exact fun _ _ _ h => h
      case hw_18 => rfl
      case hS_18 => assumption
      case hy_18 => (intro w hSw; (try dsimp only at hSw); go_simp; try with_reducible rfl)
      try simp only [Act.put, List.setIfInBounds_toArray, List.set_cons_zero, List.set_cons_succ]
      refine anyZ_free (i := 4) (oi := ?oi_19) (v := ?v_19) ?hi_19 ?hs_19 ?hf_19 ?hr_19 ?hQ_19 (Or.inl ⟨?hw_19, ?hy_19⟩) ?hrest_19
      case hi_19 => (simp only [List.getElem?_toArray, List.getElem?_cons_succ, List.getElem?_cons_zero]; exact rfl)
      case hs_19 => kernel_rfl
      case hf_19 => kernel_rfl
      case hr_19 => kernel_rfl
      case hQ_19 => exact fun _ _ _ h => h
      case hw_19 => rfl
      case hy_19 => (intro w _; go_simp; try with_reducible rfl)
      try simp only [Act.put, List.setIfInBounds_toArray, List.set_cons_zero, List.set_cons_succ]
      refine anyZ_free (i := 5) (oi := ?oi_20) (v := ?v_20) ?hi_20 ?hs_20 ?hf_20 ?hr_20 ?hQ_20 (Or.inl ⟨?hw_20, ?hy_20⟩) ?hrest_20
      case hi_20 => (simp only [List.getElem?_toArray, List.getElem?_cons_succ, List.getElem?_cons_zero]; exact rfl)
      case hs_20 => kernel_rfl
      case hf_20 => kernel_rfl
      case hr_20 => kernel_rfl
      case hQ_20 => exact fun _ _ _ h => h
      case hw_20 => rfl
      case hy_20 => (intro w _; go_simp; try with_reducible rfl)
      try simp only [Act.put, List.setIfInBounds_toArray, List.set_cons_zero, List.set_cons_succ]
      refine anyZ_free (i := 6) (oi := ?oi_21) (v := ?v_21) ?hi_21 ?hs_21 ?hf_21 ?hr_21 ?hQ_21 (Or.inl ⟨?hw_21, ?hy_21⟩) ?hrest_21
      case hi_21 => (simp only [List.getElem?_toArray, List.getElem?_cons_succ, List.getElem?_cons_zero]; exact rfl)
      case hs_21 => kernel_rfl
      case hf_21 => kernel_rfl
      case hr_21 => kernel_rfl
      case hQ_21 => exact fun _ _ _ h => h
      case hw_21 => rfl
      case hy_21 => (intro w _; go_simp; try with_reducible rfl)
      try simp only [Act.put, List.setIfInBounds_toArray, List.set_cons_zero, List.set_cons_succ]
      refine anyZ_free (i := 7) (oi := ?oi_22) (v := ?v_22) ?hi_22 ?hs_22 ?hf_22 ?hr_22 ?hQ_22 (Or.inl ⟨?hw_22, ?hy_22⟩) ?hrest_22
      case hi_22 => (simp only [List.getElem?_toArray, List.getElem?_cons_succ, List.getElem?_cons_zero]; exact rfl)
      case hs_22 => kernel_rfl
      case hf_22 => kernel_rfl
      case hr_22 => kernel_rfl
      case hQ_22 => exact fun _ _ _ h => h
      case hw_22 => rfl
      case hy_22 => (intro w _; go_simp; try with_reducible rfl)
      try simp only [Act.put, List.setIfInBounds_toArray, List.set_cons_zero, List.set_cons_succ]
      refine anyZ_take (i := 8) (oi := ?oi_23) (v := ?v_23) ?hi_23 ?hz_23 ?hs_23 ?hf_23 ?hr_23 ?hQ_23 (Or.inl ⟨?hw_23, ?hy_23⟩) ?hS_23 ?hrest_23
      case hi_23 => (simp only [List.getElem?_toArray, List.getElem?_cons_succ, List.getElem?_cons_zero]; exact rfl)
      case hz_23 => kernel_rfl
      case hs_23 => kernel_rfl
      case hf_23 => kernel_rfl
      case hr_23 => kernel_rfl
      case hQ_23 => exact fun _ _ _ h => h
      case hw_23 => rfl
      case hS_23 => assumption
      case hy_23 => (intro w hSw; (try dsimp only at hSw); go_simp; try with_reducible rfl)
      try simp only [Act.put, List.setIfInBounds_toArray, List.set_cons_zero, List.set_cons_succ]
      refine anyZ_free (i := 9) (oi := ?oi_24) (v := ?v_24) ?hi_24 ?hs_24 ?hf_24 ?hr_24 ?hQ_24 (Or.inl ⟨?hw_24, ?hy_24⟩) ?hrest_24
      case hi_24 => (simp only [List.getElem?_toArray, List.getElem?_cons_succ, List.getElem?_cons_zero]; exact rfl)
      case hs_24 => kernel_rfl
      case hf_24 => kernel_rfl
      case hr_24 => kernel_rfl
      case hQ_24 => exact fun _ _ _ h => h
      case hw_24 => rfl
      case hy_24 => (intro w _; go_simp; try with_reducible rfl)
      try simp only [Act.put, List.setIfInBounds_toArray, List.set_cons_zero, List.set_cons_succ]
      refine anyZ_free (i := 10) (oi := ?oi_25) (v := ?v_25) ?hi_25 ?hs_25 ?hf_25 ?hr_25 ?hQ_25 (Or.inl ⟨?hw_25, ?hy_25⟩) ?hrest_25
      case hi_25 => (simp only [List.getElem?_toArray, List.getElem?_cons_succ, List.getElem?_cons_zero]; exact rfl)
      case hs_25 => kernel_rfl
      case hf_25 => kernel_rfl
      case hr_25 => kernel_rfl
      case hQ_25 => exact fun _ _ _ h => h
      case hw_25 => rfl
      case hy_25 => (intro w _; go_simp; try with_reducible rfl)
      try simp only [Act.put, List.setIfInBounds_toArray, List.set_cons_zero, List.set_cons_succ]
      refine anyZ_free (i := 11) (oi := ?oi_26) (v := ?v_26) ?hi_26 ?hs_26 ?hf_26 ?hr_26 ?hQ_26 (Or.inl ⟨?hw_26, ?hy_26⟩) ?hrest_26
      case hi_26 => (simp only [List.getElem?_toArray, List.getElem?_cons_succ, List.getElem?_cons_zero]; exact rfl)
      case hs_26 => kernel_rfl
      case hf_26 => kernel_rfl
      case hr_26 => kernel_rfl
      case hQ_26 => exact fun _ _ _ h => h
      case hw_26 => rfl
      case hy_26 => (intro w _; go_simp; try with_reducible rfl)
      try simp only [Act.put, List.setIfInBounds_toArray, List.set_cons_zero, List.set_cons_succ]
      refine anyZ_free (i := 12) (oi := ?oi_27) (v := ?v_27) ?hi_27 ?hs_27 ?hf_27 ?hr_27 ?hQ_27 (Or.inl ⟨?hw_27, ?hy_27⟩) ?hrest_27
      case hi_27 => (simp only [List.getElem?_toArray, List.getElem?_cons_succ, List.getElem?_cons_zero]; exact rfl)
      case hs_27 => kernel_rfl
      case hf_27 => kernel_rfl
      case hr_27 => kernel_rfl
      case hQ_27 => exact fun _ _ _ h => h
      case hw_27 => rfl
      case hy_27 => (intro w _; go_simp; try with_reducible rfl)
      try simp only [Act.put, List.setIfInBounds_toArray, List.set_cons_zero, List.set_cons_succ]
      refine anyZ_free (i := 13) (oi := ?oi_28) (v := ?v_28) ?hi_28 ?hs_28 ?hf_28 ?hr_28 ?hQ_28 (Or.inl ⟨?hw_28, ?hy_28⟩) ?hrest_28
      case hi_28 => (simp only [List.getElem?_toArray, List.getElem?_cons_succ, List.getElem?_cons_zero]; exact rfl)
      case hs_28 => kernel_rfl
      case hf_28 => kernel_rfl
      case hr_28 => kernel_rfl
      case hQ_28 => exact fun _ _ _ h => h
      case hw_28 => rfl
      case hy_28 => (intro w _; go_simp; try with_reducible rfl)
      try simp only [Act.put, List.setIfInBounds_toArray, List.set_cons_zero, List.set_cons_succ]
      refine anyZ_take (i := 14) (oi := ?oi_29) (v := ?v_29) ?hi_29 ?hz_29 ?hs_29 ?hf_29 ?hr_29 ?hQ_29 (Or.inl ⟨?hw_29, ?hy_29⟩) ?hS_29 ?hrest_29
      case hi_29 => (simp only [List.getElem?_toArray, List.getElem?_cons_succ, List.getElem?_cons_zero]; exact rfl)
      case hz_29 => kernel_rfl
      case hs_29 => kernel_rfl
      case hf_29 => kernel_rfl
      case hr_29 => kernel_rfl
      case hQ_29 => exact fun _ _ _ h => h
      case hw_29 => rfl
      case hS_29 => assumption
      case hy_29 => (intro w hSw; (try dsimp only at hSw); go_simp; try with_reducible rfl)
      try simp only [Act.put, List.setIfInBounds_toArray, List.set_cons_zero, List.set_cons_succ]
      refine anyZ_ready (rs := [15]) (by kernel_rfl) (by simp) ?_
      refine (AllZ.cons (o := ?o_30) ?ho_30 (fun K hK => ?st_30) AllZ.nil)
      case ho_30 => (simp only [List.getElem?_toArray, List.getElem?_cons_succ, List.getElem?_cons_zero]; exact rfl)
      case st_30 =>
        go_simp
        (go_at_call 45; (with_reducible refine (q5 _ (by (repeat' (first | (with_reducible first | exact Below.refl _ _ | assumption | refine Below.alloc ?_ ?_ _ | refine Below.drew ?_ | refine below_drewN ?_ _ | refine Below.setCell ?_ ?_ _ | refine below_via (by with_reducible assumption) ?_ ?_) | omega | (simp only [szs]; omega) | (simp only [szs] at *; omega))))).mono ?_); rintro e w6 ⟨x, d, rfl, hd, wd, lx, fx, b6⟩; have z6 := b6.size; (try simp only [szs] at z6); have hB6 : Below wr.heap.size wr w6 := (by (repeat' (first | (with_reducible first | exact Below.refl _ _ | assumption | refine Below.alloc ?_ ?_ _ | refine Below.drew ?_ | refine below_drewN ?_ _ | refine Below.setCell ?_ ?_ _ | refine below_via (by with_reducible assumption) ?_ ?_) | omega | (simp only [szs]; omega) | (simp only [szs] at *; omega)))); have hN6 : Hid (Own3 w6 w.heap.size) := (by obtain ⟨x, y, z, t⟩ := hN.out; exact ⟨x, y, z, t.below hB6 t.lt⟩); obtain ⟨v0, v1, v2, t6⟩ := hN6.out; have n0 := t6.c0; have n1 := t6.c1; have n2 := t6.c2; have f0 := t6.f0; have f1 := t6.f1; have f2 := t6.f2)
        refine hK.out _ _ (by ((try dsimp only); (first | exact hkeep2.out _ (by (repeat' (first | (with_reducible first | exact Below.refl _ _ | assumption | refine Below.alloc ?_ ?_ _ | refine Below.drew ?_ | refine below_drewN ?_ _ | refine Below.setCell ?_ ?_ _ | refine below_via (by with_reducible assumption) ?_ ?_) | omega | (simp only [szs]; omega) | (simp only [szs] at *; omega)))) _ _ _ | exact hkeep.out _ (by (repeat' (first | (with_reducible first | exact Below.refl _ _ | assumption | refine Below.alloc ?_ ?_ _ | refine Below.drew ?_ | refine below_drewN ?_ _ | refine Below.setCell ?_ ?_ _ | refine below_via (by with_reducible assumption) ?_ ?_) | omega | (simp only [szs]; omega) | (simp only [szs] at *; omega))))))) (fun hHeld => ?_)
        clear hK K
        try simp only [Act.put, List.setIfInBounds_toArray, List.set_cons_zero, List.set_cons_succ]
        refine anyZ_ready (rs := [16]) (by kernel_rfl) (by simp) ?_
        refine (AllZ.cons (o := ?o_31) ?ho_31 (fun K hK => ?st_31) AllZ.nil)
        case ho_31 => (simp only [List.getElem?_toArray, List.getElem?_cons_succ, List.getElem?_cons_zero]; exact rfl)
        case st_31 =>
          go_simp
          refine hK.out _ _ (by ((try dsimp only); (first | exact hkeep2.out _ (by (repeat' (first | (with_reducible first | exact Below.refl _ _ | assumption | refine Below.alloc ?_ ?_ _ | refine Below.drew ?_ | refine below_drewN ?_ _ | refine Below.setCell ?_ ?_ _ | refine below_via (by with_reducible assumption) ?_ ?_) | omega | (simp only [szs]; omega) | (simp only [szs] at *; omega)))) _ _ _ | exact hkeep.out _ (by (repeat' (first | (with_reducible first | exact Below.refl _ _ | assumption | refine Below.alloc ?_ ?_ _ | refine Below.drew ?_ | refine below_drewN ?_ _ | refine Below.setCell ?_ ?_ _ | refine below_via (by with_reducible assumption) ?_ ?_) | omega | (simp only [szs]; omega) | (simp only [szs] at *; omega))))))) (fun hHeld => ?_)
          clear hK K
          try simp only [Act.put, List.setIfInBounds_toArray, List.set_cons_zero, List.set_cons_succ]
          refine anyZ_ready (rs := [17]) (by kernel_rfl) (by simp) ?_
          refine (AllZ.last (o := ?o_32) ?ho_32 (by rfl) (fun K hK => ?st_32) AllZ.nil)
          case ho_32 => (simp only [List.getElem?_toArray, List.getElem?_cons_succ, List.getElem?_cons_zero]; exact rfl)
          case st_32 =>
            go_simp
            refine hK.out _ _ ?_
            clear hK K
            try simp only [Act.put, List.setIfInBounds_toArray, List.set_cons_zero, List.set_cons_succ]
            refine anyZ_done (by kernel_rfl) ?_ _
            refine NoPanic.normal ?_
            have hDw := hD.out.on hB6
            have kN : KeepO (fun k => k = w.heap.size) w6 (((w6.setCell ⟨w.heap.size, 0, none⟩ (.int .i64 (S.n : Nat))).setCell ⟨w.heap.size, 1, none⟩ (.int .i64 (S.pub : Nat))).setCell ⟨w.heap.size, 2, none⟩ (.slice (some ⟨gR, 0, none⟩) S.m S.m)) := ((KeepO.setCell (O := fun k => k = w.heap.size) w6 _ _ _ rfl).trans (KeepO.setCell (O := fun k => k = w.heap.size) _ _ _ _ rfl) fun _ _ h => h).trans (KeepO.setCell (O := fun k => k = w.heap.size) _ _ _ _ rfl) fun _ _ h => h
            have t9 := Three.set ⟨_, _, _, t6⟩ (.int .i64 (S.n : Nat)) (.int .i64 (S.pub : Nat)) (.slice (some ⟨gR, 0, none⟩) S.m S.m)
            have hB9 : Hid (Below w.heap.size w (((w6.setCell ⟨w.heap.size, 0, none⟩ (.int .i64 (S.n : Nat))).setCell ⟨w.heap.size, 1, none⟩ (.int .i64 (S.pub : Nat))).setCell ⟨w.heap.size, 2, none⟩ (.slice (some ⟨gR, 0, none⟩) S.m S.m))) := (((below_via hB6 hB zB).setCell (Nat.le_refl _) _).setCell (Nat.le_refl _) _).setCell (Nat.le_refl _) _
            have gRw := hgR.out
            have gRl := hD.out.sto.lt
            have lx' : wr.heap.size ≤ x := lx
            have kat : ∀ {L : Lst}, L.At w6.heap.size w6 → (∀ x, L.ad = some x → gR < x.block) → L.At (((w6.setCell ⟨w.heap.size, 0, none⟩ (.int .i64 (S.n : Nat))).setCell ⟨w.heap.size, 1, none⟩ (.int .i64 (S.pub : Nat))).setCell ⟨w.heap.size, 2, none⟩ (.slice (some ⟨gR, 0, none⟩) S.m S.m)).heap.size (((w6.setCell ⟨w.heap.size, 0, none⟩ (.int .i64 (S.n : Nat))).setCell ⟨w.heap.size, 1, none⟩ (.int .i64 (S.pub : Nat))).setCell ⟨w.heap.size, 2, none⟩ (.slice (some ⟨gR, 0, none⟩) S.m S.m)) := fun {L} hL hx => by
              rcases hL with h | ⟨g, off, h1, h2, h3⟩
              · exact Or.inl h
              · exact Or.inr ⟨g, off, h1, Nat.lt_of_lt_of_le h2 kN.size, trms_keep h3 kN fun e => by have := hx _ h1; have e' : g = w.heap.size := e; dsimp only at this; omega⟩
            have hsto := hDw.sto.keep kN (fun e => by have e' : gR = w.heap.size := e; omega)
            have hNew : Hid (NewSys w.heap.size (fun k => r k ≠ 0) (((w6.setCell ⟨w.heap.size, 0, none⟩ (.int .i64 (S.n : Nat))).setCell ⟨w.heap.size, 1, none⟩ (.int .i64 (S.pub : Nat))).setCell ⟨w.heap.size, 2, none⟩ (.slice (some ⟨gR, 0, none⟩) S.m S.m)) (some ⟨gR, 0, none⟩) S.m R') := by
              refine ⟨Or.inr ⟨gR, 0, rfl, hsto.lt, fun i hi j hj => ?_, fun i hi j hj => kat (hDw.at_ i hi j hj) fun x hx => (hDw.new i hi j hj x hx).1⟩, hDw.ok, fun y hy => ?_, fun i hi j hj y hy h0 => ?_, fun i hi j hj y z hy h0 hz => ?_⟩
              · have := hsto.cell (j := i * 3 + j) (by omega) (Nat.le_refl _)
                rw [rowF_at _ i j hj] at this
                rw [Nat.zero_add]
                exact this
              · cases hy
                exact ⟨by show _ ≤ gR; omega, fun hr => hr (h'.out.zero gR (by omega))⟩
              · have q := hDw.new i hi j hj y hy
                exact ⟨by omega, fun hr => hr (h'.out.zero y.block (by omega)), fun o => (kN.frozen q.2.1 (fun e => by have e' : y.block = w.heap.size := e; omega)).trans (q.2.2 o)⟩
              · cases hz
                have q := hDw.new i hi j hj y hy
                show y.block ≠ gR
                omega
            have hSys : Hid (SysOf S R') := ⟨fun i hi j hj => by
              have q := hDw.same i hi j hj
              exact (hS'.out.sum i hi j hj).re q.1 q.2.1 q.2.2⟩
            have hWd : Hid (Wds (((w6.setCell ⟨w.heap.size, 0, none⟩ (.int .i64 (S.n : Nat))).setCell ⟨w.heap.size, 1, none⟩ (.int .i64 (S.pub : Nat))).setCell ⟨w.heap.size, 2, none⟩ (.slice (some ⟨gR, 0, none⟩) S.m S.m)) x 0 S.n S.v ∧ ∀ o, (((w6.setCell ⟨w.heap.size, 0, none⟩ (.int .i64 (S.n : Nat))).setCell ⟨w.heap.size, 1, none⟩ (.int .i64 (S.pub : Nat))).setCell ⟨w.heap.size, 2, none⟩ (.slice (some ⟨gR, 0, none⟩) S.m S.m)).frozen? ⟨x, o, none⟩ = false) := ⟨⟨Nat.lt_of_lt_of_le wd.lt kN.size, fun i hi => kN.cell (wd.at_ i hi) (fun e => by have e' : x = w.heap.size := e; omega)⟩, fun o => (kN.frozen wd.lt (fun e => by have e' : x = w.heap.size := e; omega)).trans (fx o)⟩
            have hxx : Hid (∀ i, i < S.m → ∀ j, j < 3 → ∀ y, (R' i j).ad = some y → 0 < (R' i j).n → y.block ≠ x) := fun i hi j hj y hy _ => by
              have q := (hD.out.new i hi j hj y hy).2.1
              omega
            have hgx : gR ≠ x := by omega
            have hwx : w.heap.size ≤ x := by omega
            clear n0 n1 n2 f0 f1 f2 t6 hN6 hB6 z6 b6 lx wd fx hDw kN hsto kat hN hD t5' hkeep hkeep2 hsrc' q5 hB
            generalize (((w6.setCell ⟨w.heap.size, 0, none⟩ (.int .i64 (S.n : Nat))).setCell ⟨w.heap.size, 1, none⟩ (.int .i64 (S.pub : Nat))).setCell ⟨w.heap.size, 2, none⟩ (.slice (some ⟨gR, 0, none⟩) S.m S.m)) = W9 at *
            have r0 := t9.c0
            have r1 := t9.c1
            have r2 := t9.c2
            clear t9
            go_wp2
            refine bodyPost_ret (v := .tuple #[rankV (S.n : Nat) (S.pub : Nat) (some ⟨gR, 0, none⟩) S.m S.m, .slice (some ⟨x, 0, none⟩) S.n d]) ?hr rfl ?_
            case hr =>
              rw [results_cell_tmp rfl]
              simp [go_sem, asAddr, rankV, r0, r1, r2]
            exact ⟨some ⟨gR, 0, none⟩, S.m, R', x, d, rfl, hB9.out, hNew.out, hSys.out, hd, hWd.out.1, hwx, hWd.out.2, fun y hy => by cases hy; exact hgx, hxx.out⟩
end Go.Proofs.Ytdbolfmmlmoiaaa

namespace Go.Proofs.Ytdbolfmmlmoiaaa
open Go.RowKit Go.Proofs
set_option linter.unusedVariables false
/-- A maker of the program in memory, and the blocks that it owns. -/
def GadG : Mkr := fun w O g S => ∃ r : Nat → Nat, (∀ k, O k ↔ r k ≠ 0) ∧ GMd r w g S
theorem GadG.after {O : Nat → Prop} {r : Nat → Nat} {w w' : World} {g : Nat} {S : Mk} (hr : ∀ k, O k ↔ r k ≠ 0) (h : GAf r w w' g S) : GAfter GadG O w w' g S := by
  obtain ⟨s, h1, h2, h3, h4⟩ := h
  exact ⟨fun k => s k ≠ 0, ⟨s, fun k => Iff.rfl, h1⟩, fun k hk => (h2 k hk).imp (hr k).2 id, ⟨h4.os, h4.tape, h4.output, h4.size, fun k hk hn => h4.block k hk fun hh => hn ((hr k).2 hh)⟩⟩
theorem gadC : ∃ G : Mkr, GadC G := ⟨GadG, {
  keep := fun {w w' O Q g S} h hk hd => by
    obtain ⟨r, hr, h⟩ := h
    exact ⟨r, hr, h.keep hk fun k hk' => hd k ((hr k).2 hk')⟩
  lt := fun {w O g S} h k hk => by
    obtain ⟨r, hr, h⟩ := h
    exact h.lt k ((hr k).1 hk)
  new := fun W => (kNewW W).mono fun e w' => by
    rintro ⟨g, r, h1, h2, h3, h4⟩
    exact ⟨g, fun k => r k ≠ 0, h1, ⟨r, fun k => Iff.rfl, h2⟩, h3, h4⟩
  public_yes := fun W O g S h hf hp X hX => by
    obtain ⟨r, hr, h⟩ := h
    exact (kpubYesW r g S hf.1 (by have := hf.2.1; omega) X hX hp W h).mono fun e w' => by rintro ⟨h1, h2⟩; exact ⟨h1, GadG.after hr h2⟩
  public_no := fun W O g S h hf hp X hX => by
    obtain ⟨r, hr, h⟩ := h
    exact (kpubNoW r g S hf.1 (by have := hf.2.1; omega) X hp W h).mono fun e w' => by rintro ⟨h1, h2⟩; exact ⟨h1, GadG.after hr (GAf.same h h2)⟩
  private_ := fun W O g S h hf X hX => by
    obtain ⟨r, hr, h⟩ := h
    exact (kprivW r g S (by have := hf.2.1; omega) X hX W h).mono fun e w' => by rintro ⟨h1, h2⟩; exact ⟨h1, GadG.after hr h2⟩
  value := fun W O g S h hf v hv1 hv2 => by
    obtain ⟨r, hr, h⟩ := h
    exact (kValueW r g S hf.1 v W h).mono fun e w' => by rintro ⟨h1, h2⟩; exact ⟨h1, GadG.after hr (GAf.same h h2)⟩
  linear := fun W O g S h hf L hL hn hA => by
    obtain ⟨r, hr, h⟩ := h
    exact (klinearW r g S hf.1 (by have := hf.2.1; omega) (by have := hf.2.2; omega) L hL (by omega) (S.isL L) (LEq.refl _) W h hA).mono fun e w' => by rintro ⟨h1, h2⟩; exact ⟨h1, GadG.after hr h2⟩
  mul := fun W O g S h hf a b _ _ => by
    obtain ⟨r, hr, h⟩ := h
    exact (kMulW r g S hf.1 (by have := hf.2.1; omega) (by have := hf.2.2; omega) a b W h).mono fun e w' => by rintro ⟨h1, h2⟩; exact ⟨h1, GadG.after hr h2⟩
  bits := fun W O g S h hf a n _ _ => by
    obtain ⟨r, hr, h⟩ := h
    exact (kBitsW r g S hf.1 (by have := hf.2.1; omega) (by have := hf.2.2; omega) a n W h).mono fun e w' => by
      rintro ⟨v, s, h1, h2, h3, h4, h5, h6⟩
      exact ⟨v, fun k => s k ≠ 0, h1, h2, fun k hk => ⟨(h3 k hk).1, fun hs => hs (h3 k hk).2⟩, ⟨s, fun k => Iff.rfl, h4⟩, fun k hk => (h5 k hk).imp (hr k).2 id, ⟨h6.os, h6.tape, h6.output, h6.size, fun k hk hn => h6.block k hk fun hh => hn ((hr k).2 hh)⟩⟩
  choose := fun W O g S h hf t a b _ _ _ => by
    obtain ⟨r, hr, h⟩ := h
    exact (kChooseW r g S hf.1 (by have := hf.2.1; omega) (by have := hf.2.2; omega) t a b W h).mono fun e w' => by rintro ⟨h1, h2⟩; exact ⟨h1, GadG.after hr h2⟩
  same := fun W O g S h hf a b _ _ => by
    obtain ⟨r, hr, h⟩ := h
    exact (kSameW r g S hf.1 (by have := hf.2.1; omega) (by have := hf.2.2; omega) a b W h).mono fun e w' => by rintro ⟨h1, h2⟩; exact ⟨h1, GadG.after hr h2⟩
  two := fun W O g S h hf a b _ _ => by
    obtain ⟨r, hr, h⟩ := h
    exact (kTwoW r g S hf.1 (by have := hf.2.1; omega) (by have := hf.2.2; omega) a b W h).mono fun e w' => by rintro ⟨h1, h2⟩; exact ⟨h1, GadG.after hr h2⟩
  many := fun W O g S h hf ad m c V hm hV hI hd => by
    obtain ⟨r, hr, h⟩ := h
    exact (kManyW r g S hf.1 hf.2.1 hf.2.2 ad m c V hm W h hI (fun y hy h0 => Decidable.byContradiction fun hh => hd y hy h0 ((hr y.block).2 hh))).mono fun e w' => by rintro ⟨h1, h2⟩; exact ⟨h1, GadG.after hr h2⟩
  done := fun W O g S h hf => by
    obtain ⟨r, hr, h⟩ := h
    exact (kDoneW r g S hf.1 hf.2.1 hf.2.2 W h).mono fun e w' => by
      rintro ⟨a, c, R, x, d, h1, h2, h3, h4, h5, h6, h7, h8, h9, h10⟩
      have hx0 : r x = 0 := h.zero x h7
      exact ⟨fun k => r k ≠ 0, a, c, R, x, d, h1, ⟨r, fun k => Iff.rfl, h.below h2⟩, fun k hk => Or.inl ((hr k).2 hk), KeepO.of_below h2, h3, h4, h5, h6, h7, fun hh => hh hx0, h8, h9, h10⟩ }⟩
end Go.Proofs.Ytdbolfmmlmoiaaa
