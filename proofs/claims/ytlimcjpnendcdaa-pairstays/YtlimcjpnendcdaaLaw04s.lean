/-
  PairStays, walked.
-/
import Derived.Test.YtlimcjpnendcdaaUpP
import Derived.Test.YtlimcjpnendcdaaPairR
import Derived.Test.YtlimcjpnendcdaaCopies
import Derived.Deep.DeepCutAuto
namespace Go.Proofs.Ytlimcjpnendcdaa
open Go.RowKit Go.Proofs
set_option linter.unusedVariables false
set_option linter.unusedSimpArgs false
attribute [local go_sem ↓] Go.wp_at_zero Go.wp_at_succ
attribute [local go_sem] field_Pt

set_option maxHeartbeats 1000000 in
theorem pstays_big (a q : Option Addr) (n m c d : Nat) (h : 4 < n ∨ 4 < m) (w : World)
   (cu : ∀ w, Calls Try.prog 8 #[] w fun e w' => e = .returned (.bool true) ∧ Below w.heap.size w w') :
    Calls Try.prog 7 #[.slice a n c, .slice q m d] w fun e w' => e = .returned (.bool true) ∧ Below w.heap.size w w' := by
  by_cases h1 : 4 < n
  · have h1' : (4 : Int) < (n : Int) := by omega
    clear h h1
    go_enter Try.func7, Try.ntmps7
    go_wp2_with (first | (go_at_call 8; first | (with_reducible refine (cu _).mono ?_; rintro e w_cu ⟨rfl, b_cu⟩; have z_cu := b_cu.size; (try simp only [World.size_alloc, World.size_setCell, World.size_drew, size_drewN] at z_cu))))
    go_ret
    exact ⟨rfl, by (repeat' (first | (with_reducible exact Below.refl _ _) | (with_reducible assumption) | (with_reducible refine Below.alloc ?_ ?_ _) | (with_reducible refine Below.drew ?_) | (with_reducible refine below_drewN ?_ _) | (with_reducible refine Below.setCell ?_ ?_ _) | (with_reducible refine below_via (by with_reducible assumption) ?_ ?_) | omega | (simp only [World.size_alloc, World.size_setCell, World.size_drew, size_drewN]; omega) | (simp only [World.size_alloc, World.size_setCell, World.size_drew, size_drewN] at *; omega)))⟩
  · have h1' : ¬ (4 : Int) < (n : Int) := by omega
    have h2' : (4 : Int) < (m : Int) := by omega
    clear h h1
    go_enter Try.func7, Try.ntmps7
    go_wp2_with (first | (go_at_call 8; first | (with_reducible refine (cu _).mono ?_; rintro e w_cu ⟨rfl, b_cu⟩; have z_cu := b_cu.size; (try simp only [World.size_alloc, World.size_setCell, World.size_drew, size_drewN] at z_cu))))
    go_ret
    exact ⟨rfl, by (repeat' (first | (with_reducible exact Below.refl _ _) | (with_reducible assumption) | (with_reducible refine Below.alloc ?_ ?_ _) | (with_reducible refine Below.drew ?_) | (with_reducible refine below_drewN ?_ _) | (with_reducible refine Below.setCell ?_ ?_ _) | (with_reducible refine below_via (by with_reducible assumption) ?_ ?_) | omega | (simp only [World.size_alloc, World.size_setCell, World.size_drew, size_drewN]; omega) | (simp only [World.size_alloc, World.size_setCell, World.size_drew, size_drewN] at *; omega)))⟩

theorem pts_nil {w : World} {a : Option Addr} {n : Nat} {p : Nat → P3} (h : PtsAt w a n p) (e : a = none) : n = 0 := by
  rcases h with h | ⟨b, off, rfl, _⟩
  · exact h
  · cases e

set_option maxHeartbeats 4000000 in
theorem pstays_core (a q : Option Addr) (n m c d : Nat) (hn : n ≤ 4) (hm : m ≤ 4) (p r : Nat → P3) (vp : ∀ i, i < n → P3w (p i)) (vr : ∀ i, i < m → P3w (r i)) (w : World) (ha : PtsAt w a n p) (hq : PtsAt w q m r) :
    Calls Try.prog 7 #[.slice a n c, .slice q m d] w fun e w' => e = .returned (.bool true) ∧ Below w.heap.size w w' := by
  have cu := upW
  have hn' : decide ((4 : Int) < (n : Int)) = false := decide_eq_false (by omega)
  have hm' : decide ((4 : Int) < (m : Int)) = false := decide_eq_false (by omega)
  obtain ⟨E, hE⟩ : ∃ E, Hid (prodE p r n m = E) := ⟨_, rfl⟩
  obtain ⟨er, her⟩ : ∃ er, Hid (errV (prodOk p r n m) = er) := ⟨_, rfl⟩
  have cp : Hid (∀ (g h : Nat) (c d : Nat) (w1 : World), PtsAt w1 (some ⟨g, 0, none⟩) n p → PtsAt w1 (some ⟨h, 0, none⟩) m r → Calls Try.prog 11 #[.slice (some ⟨g, 0, none⟩) n c, .slice (some ⟨h, 0, none⟩) m d] w1 fun e w' => e = .returned (.tuple #[.agg #[.int .u64 (E.1.val : Nat), .int .u64 (E.2.val : Nat)], er]) ∧ Below w1.heap.size w1 w') := fun g h c d w1 h1 h2 => by
    have := productW _ _ n m c d (by omega) p r vp vr w1 h1 h2
    rw [hE.out, her.out] at this
    exact this
  have ha' : Hid (PtsAt w a n p) := ha
  have hq' : Hid (PtsAt w q m r) := hq
  clear ha hq vp vr hE
  go_enter Try.func7, Try.ntmps7
  go_upto_region 4 with (first | (go_at_call 8; first | (with_reducible refine (cu _).mono ?_; rintro e w_cu ⟨rfl, b_cu⟩; have z_cu := b_cu.size; (try simp only [World.size_alloc, World.size_setCell, World.size_drew, size_drewN] at z_cu))))
  have hB0 : Below w.heap.size w (w_cu.alloc (.cells #[] 24)) := by (repeat' (first | (with_reducible exact Below.refl _ _) | (with_reducible assumption) | (with_reducible refine Below.alloc ?_ ?_ _) | (with_reducible refine Below.drew ?_) | (with_reducible refine below_drewN ?_ _) | (with_reducible refine Below.setCell ?_ ?_ _) | (with_reducible refine below_via (by with_reducible assumption) ?_ ?_) | omega | (simp only [World.size_alloc, World.size_setCell, World.size_drew, size_drewN]; omega) | (simp only [World.size_alloc, World.size_setCell, World.size_drew, size_drewN] at *; omega)))
  have lz := hB0.size
  go_upto_region 5 with (at_builtin; refine wpList_copy rfl _ _ rfl w_cu.heap.size rfl a n c p rfl (ha'.out.below hB0) (by omega) (pts_nil ha'.out) ?_; intro g1 cap1 w1 t1 b1)
  have hB1 : Below w.heap.size w w1 := by (repeat' (first | (with_reducible exact Below.refl _ _) | (with_reducible assumption) | (with_reducible refine Below.alloc ?_ ?_ _) | (with_reducible refine Below.drew ?_) | (with_reducible refine below_drewN ?_ _) | (with_reducible refine Below.setCell ?_ ?_ _) | (with_reducible refine below_via (by with_reducible assumption) ?_ ?_) | omega | (simp only [World.size_alloc, World.size_setCell, World.size_drew, size_drewN]; omega) | (simp only [World.size_alloc, World.size_setCell, World.size_drew, size_drewN] at *; omega)))
  have t1 : Hid (PtsAt w1 (some ⟨g1, 0, none⟩) n p) := t1
  clear b1 hB0 lz b_cu z_cu cu
  have hB2 : Below w.heap.size w (w1.alloc (.cells #[] 24)) := by have := hB1.size; (repeat' (first | (with_reducible exact Below.refl _ _) | (with_reducible assumption) | (with_reducible refine Below.alloc ?_ ?_ _) | (with_reducible refine Below.drew ?_) | (with_reducible refine below_drewN ?_ _) | (with_reducible refine Below.setCell ?_ ?_ _) | (with_reducible refine below_via (by with_reducible assumption) ?_ ?_) | omega | (simp only [World.size_alloc, World.size_setCell, World.size_drew, size_drewN]; omega) | (simp only [World.size_alloc, World.size_setCell, World.size_drew, size_drewN] at *; omega)))
  have lz := hB2.size
  have b12 : Below w1.heap.size w1 (w1.alloc (.cells #[] 24)) := by (repeat' (first | (with_reducible exact Below.refl _ _) | (with_reducible assumption) | (with_reducible refine Below.alloc ?_ ?_ _) | (with_reducible refine Below.drew ?_) | (with_reducible refine below_drewN ?_ _) | (with_reducible refine Below.setCell ?_ ?_ _) | (with_reducible refine below_via (by with_reducible assumption) ?_ ?_) | omega | (simp only [World.size_alloc, World.size_setCell, World.size_drew, size_drewN]; omega) | (simp only [World.size_alloc, World.size_setCell, World.size_drew, size_drewN] at *; omega)))
  go_upto_region 6 with (at_builtin; refine wpList_copy rfl _ _ rfl w1.heap.size rfl q m d r rfl (hq'.out.below hB2) (by omega) (pts_nil hq'.out) ?_; intro g2 cap2 w2 t2 b2)
  have hB3 : Below w.heap.size w w2 := by (repeat' (first | (with_reducible exact Below.refl _ _) | (with_reducible assumption) | (with_reducible refine Below.alloc ?_ ?_ _) | (with_reducible refine Below.drew ?_) | (with_reducible refine below_drewN ?_ _) | (with_reducible refine Below.setCell ?_ ?_ _) | (with_reducible refine below_via (by with_reducible assumption) ?_ ?_) | omega | (simp only [World.size_alloc, World.size_setCell, World.size_drew, size_drewN]; omega) | (simp only [World.size_alloc, World.size_setCell, World.size_drew, size_drewN] at *; omega)))
  have b13 : Below w1.heap.size w1 w2 := b12.trans (b2.mono b12.size)
  have t1 : Hid (PtsAt w2 (some ⟨g1, 0, none⟩) n p) := t1.out.below b13
  have t2 : Hid (PtsAt w2 (some ⟨g2, 0, none⟩) m r) := t2
  clear b2 b12 b13 hB2 lz hB1
  have c1 := cp.out g1 g2 cap1 cap2 w2 t1.out t2.out
  have lz := hB3.size
  go_wp2_with (go_at_call 11; (with_reducible refine c1.mono ?_); rintro e w_c1 ⟨rfl, b_c1⟩; have z_c1 := b_c1.size)
  have hB4 : Below w.heap.size w (w_c1.alloc (.cells #[.int .u64 (E.1.val : Nat), .int .u64 (E.2.val : Nat)] 27)) := by (repeat' (first | (with_reducible exact Below.refl _ _) | (with_reducible assumption) | (with_reducible refine Below.alloc ?_ ?_ _) | (with_reducible refine Below.drew ?_) | (with_reducible refine below_drewN ?_ _) | (with_reducible refine Below.setCell ?_ ?_ _) | (with_reducible refine below_via (by with_reducible assumption) ?_ ?_) | omega | (simp only [World.size_alloc, World.size_setCell, World.size_drew, size_drewN]; omega) | (simp only [World.size_alloc, World.size_setCell, World.size_drew, size_drewN] at *; omega)))
  have b24 : Below w2.heap.size w2 (w_c1.alloc (.cells #[.int .u64 (E.1.val : Nat), .int .u64 (E.2.val : Nat)] 27)) := by clear hB4; (repeat' (first | (with_reducible exact Below.refl _ _) | (with_reducible assumption) | (with_reducible refine Below.alloc ?_ ?_ _) | (with_reducible refine Below.drew ?_) | (with_reducible refine below_drewN ?_ _) | (with_reducible refine Below.setCell ?_ ?_ _) | (with_reducible refine below_via (by with_reducible assumption) ?_ ?_) | omega | (simp only [World.size_alloc, World.size_setCell, World.size_drew, size_drewN]; omega) | (simp only [World.size_alloc, World.size_setCell, World.size_drew, size_drewN] at *; omega)))
  have te : Two (w_c1.alloc (.cells #[.int .u64 (E.1.val : Nat), .int .u64 (E.2.val : Nat)] 27)) w_c1.heap.size (.int .u64 (E.1.val : Nat)) (.int .u64 (E.2.val : Nat)) := by (repeat' (first | (with_reducible assumption) | (with_reducible exact Two.own (by with_reducible assumption)) | (with_reducible refine Two.set ?_ _ _) | (with_reducible refine Own2.set ?_ _ _) | (with_reducible refine Two.drew ?_) | (with_reducible refine Two.drewN ?_ _) | (with_reducible refine Own2.drew ?_) | (with_reducible refine Own2.drewN ?_ _) | (with_reducible refine Two.new ?_; simp only [World.size_alloc, World.size_setCell, World.size_drew, size_drewN]; done) | (with_reducible refine Own2.new ?_; simp only [World.size_alloc, World.size_setCell, World.size_drew, size_drewN]; done) | (with_reducible refine Two.alloc ?_ _) | (with_reducible refine Own2.alloc ?_ _) | (with_reducible refine Two.far ?_ ?_ _ _) | (with_reducible refine Own2.far ?_ ?_ _ _) | (with_reducible refine Two.via (by with_reducible assumption) ?_ ?_) | (with_reducible refine Own2.via (by with_reducible assumption) ?_ ?_) | omega | (simp only [World.size_alloc, World.size_setCell, World.size_drew, size_drewN]; omega)))
  generalize w_c1.alloc (.cells #[.int .u64 (E.1.val : Nat), .int .u64 (E.2.val : Nat)] 27) = W at *
  have x1 : Hid (PtsAt W (some ⟨g1, 0, none⟩) n p) := t1.out.below b24
  have x2 : Hid (PtsAt W (some ⟨g2, 0, none⟩) m r) := t2.out.below b24
  have y1 : Hid (PtsAt W a n p) := ha'.out.below hB4
  have y2 : Hid (PtsAt W q m r) := hq'.out.below hB4
  clear c1 b_c1 z_c1 b24 t1 t2 ha' hq' hB3 lz
  generalize w_c1.heap.size = be at *
  go_loopw [10] (fun s wq => ∃ i : Nat, i ≤ n ∧ s = .int .i64 (i : Int) ∧ Below W.heap.size W wq) (fun s _ => n - (intOf s).toNat)
  case atStart => exact ⟨0, by omega, rfl, Below.refl _ _⟩
  case round =>
    obtain ⟨i, hi, rfl, hW⟩ := hrel
    by_cases hlt : i < n
    · obtain ⟨b, off, rfl, ha⟩ := y1.out.resolve_left (by omega)
      obtain ⟨b', off', e', hx⟩ := x1.out.resolve_left (by omega)
      obtain ⟨rfl, rfl⟩ : g1 = b' ∧ 0 = off' := by simpa using e'
      clear e'
      have ha' : Hid (PtsIn W b off n p) := ha
      have hx' : Hid (PtsIn W g1 0 n p) := hx
      have qe := fun w : World => equal_Pts w (p i).1 (p i).1 ((p i).2.1 : Nat) ((p i).2.2 : Nat) ((p i).2.1 : Nat) ((p i).2.2 : Nat)
      simp only [beq_self_eq_true, Bool.and_self] at qe
      have hI : (i : Int) < (n : Int) := by omega
      have hI0 : (0 : Int) ≤ (i : Int) := by omega
      have hI6 : (n : Int) ≤ 4 := by omega
      have lW := hW.size
      have zz : (fun k : Nat => 0 + k * 3) i = i * 3 := by simp
      clear ha hx x2 y2 cp her te zz
      go_wp2
      go_region_held3 (fun w' => w'.cell? ⟨b, off + i * 3, none⟩ = some (.bool (p i).1) ∧ w'.cell? ⟨b, off + i * 3 + 1, none⟩ = some (.int .u64 ((p i).2.1 : Nat)) ∧ w'.cell? ⟨b, off + i * 3 + 2, none⟩ = some (.int .u64 ((p i).2.2 : Nat)) ∧ w'.cell? ⟨g1, i * 3, none⟩ = some (.bool (p i).1) ∧ w'.cell? ⟨g1, i * 3 + 1, none⟩ = some (.int .u64 ((p i).2.1 : Nat)) ∧ w'.cell? ⟨g1, i * 3 + 2, none⟩ = some (.int .u64 ((p i).2.2 : Nat)))
        ((refine cells_and3 ((ha'.out.below (B := W.heap.size) ?_ ha'.out.lt).at hlt) ((hx'.out.below (B := W.heap.size) ?_ hx'.out.lt).at0 hlt) <;> (repeat' (first | (with_reducible exact Below.refl _ _) | (with_reducible assumption) | (with_reducible refine Below.alloc ?_ ?_ _) | (with_reducible refine Below.drew ?_) | (with_reducible refine below_drewN ?_ _) | (with_reducible refine Below.setCell ?_ ?_ _) | (with_reducible refine below_via (by with_reducible assumption) ?_ ?_) | omega | (simp only [World.size_alloc, World.size_setCell, World.size_drew, size_drewN]; omega) | (simp only [World.size_alloc, World.size_setCell, World.size_drew, size_drewN] at *; omega)))))
        (fail)
      all_goals
        go_wp2
        go_roundw
        case rel => exact ⟨i + 1, by omega, by go_num, by (repeat' (first | (with_reducible exact Below.refl _ _) | (with_reducible assumption) | (with_reducible refine Below.alloc ?_ ?_ _) | (with_reducible refine Below.drew ?_) | (with_reducible refine below_drewN ?_ _) | (with_reducible refine Below.setCell ?_ ?_ _) | (with_reducible refine below_via (by with_reducible assumption) ?_ ?_) | omega | (simp only [World.size_alloc, World.size_setCell, World.size_drew, size_drewN]; omega) | (simp only [World.size_alloc, World.size_setCell, World.size_drew, size_drewN] at *; omega)))⟩
        case measure => first | (simp [intOf]; done) | (simp [intOf]; omega)
    · have hin : n = i := by omega
      clear hi hlt
      subst hin
      go_wp2
      go_loopw [11] (fun s wq => ∃ i : Nat, i ≤ m ∧ s = .int .i64 (i : Int) ∧ Below W.heap.size W wq) (fun s _ => m - (intOf s).toNat)
      case atStart => exact ⟨0, by omega, rfl, hW⟩
      case round =>
        obtain ⟨i, hi, rfl, hW⟩ := hrel
        by_cases hlt : i < m
        · obtain ⟨b, off, rfl, ha⟩ := y2.out.resolve_left (by omega)
          obtain ⟨b', off', e', hx⟩ := x2.out.resolve_left (by omega)
          obtain ⟨rfl, rfl⟩ : g2 = b' ∧ 0 = off' := by simpa using e'
          clear e'
          have ha' : Hid (PtsIn W b off m r) := ha
          have hx' : Hid (PtsIn W g2 0 m r) := hx
          have qe := fun w : World => equal_Pts w (r i).1 (r i).1 ((r i).2.1 : Nat) ((r i).2.2 : Nat) ((r i).2.1 : Nat) ((r i).2.2 : Nat)
          simp only [beq_self_eq_true, Bool.and_self] at qe
          have hI : (i : Int) < (m : Int) := by omega
          have hI0 : (0 : Int) ≤ (i : Int) := by omega
          have hI6 : (m : Int) ≤ 4 := by omega
          have lW := hW.size
          have zz : (fun k : Nat => 0 + k * 3) i = i * 3 := by simp
          clear ha hx x1 y1 cp her te zz
          go_wp2
          go_region_held3 (fun w' => w'.cell? ⟨b, off + i * 3, none⟩ = some (.bool (r i).1) ∧ w'.cell? ⟨b, off + i * 3 + 1, none⟩ = some (.int .u64 ((r i).2.1 : Nat)) ∧ w'.cell? ⟨b, off + i * 3 + 2, none⟩ = some (.int .u64 ((r i).2.2 : Nat)) ∧ w'.cell? ⟨g2, i * 3, none⟩ = some (.bool (r i).1) ∧ w'.cell? ⟨g2, i * 3 + 1, none⟩ = some (.int .u64 ((r i).2.1 : Nat)) ∧ w'.cell? ⟨g2, i * 3 + 2, none⟩ = some (.int .u64 ((r i).2.2 : Nat)))
            ((refine cells_and3 ((ha'.out.below (B := W.heap.size) ?_ ha'.out.lt).at hlt) ((hx'.out.below (B := W.heap.size) ?_ hx'.out.lt).at0 hlt) <;> (repeat' (first | (with_reducible exact Below.refl _ _) | (with_reducible assumption) | (with_reducible refine Below.alloc ?_ ?_ _) | (with_reducible refine Below.drew ?_) | (with_reducible refine below_drewN ?_ _) | (with_reducible refine Below.setCell ?_ ?_ _) | (with_reducible refine below_via (by with_reducible assumption) ?_ ?_) | omega | (simp only [World.size_alloc, World.size_setCell, World.size_drew, size_drewN]; omega) | (simp only [World.size_alloc, World.size_setCell, World.size_drew, size_drewN] at *; omega)))))
            (fail)
          all_goals
            go_wp2
            go_roundw
            case rel => exact ⟨i + 1, by omega, by go_num, by (repeat' (first | (with_reducible exact Below.refl _ _) | (with_reducible assumption) | (with_reducible refine Below.alloc ?_ ?_ _) | (with_reducible refine Below.drew ?_) | (with_reducible refine below_drewN ?_ _) | (with_reducible refine Below.setCell ?_ ?_ _) | (with_reducible refine below_via (by with_reducible assumption) ?_ ?_) | omega | (simp only [World.size_alloc, World.size_setCell, World.size_drew, size_drewN]; omega) | (simp only [World.size_alloc, World.size_setCell, World.size_drew, size_drewN] at *; omega)))⟩
            case measure => first | (simp [intOf]; done) | (simp [intOf]; omega)
        · have hin : m = i := by omega
          clear hi hlt
          subst hin
          have lW := hW.size
          have c2 := cp.out g1 g2 cap1 cap2 wr (x1.out.below hW) (x2.out.below hW)
          have te2 : Two wr be (.int .u64 (E.1.val : Nat)) (.int .u64 (E.2.val : Nat)) := te.below hW te.lt
          have hB5 : Below w.heap.size w wr := hB4.trans (hW.mono hB4.size)
          have q1 : ∀ w : World, (Op.equalIn 10000 27 (.agg #[.int .u64 (E.1.val : Nat), .int .u64 (E.2.val : Nat)]) (.agg #[.int .u64 (E.1.val : Nat), .int .u64 (E.2.val : Nat)])).run Try.prog w = .ok true w := fun w => by rw [equal_E]; simp
          have l5 := hB5.size
          have l6 := te2.lt
          have ⟨d1, d2, d3, d4, d5⟩ := te2
          obtain her | her : er = .nilIface ∨ er = .iface 37 (.int .i64 1) := by
            rw [← her.out]
            unfold errV
            split
            · exact Or.inl rfl
            · exact Or.inr rfl
          all_goals
            subst her
            clear cp x1 x2 y1 y2 te hW hB4
            go_wp2_with (go_at_call 11; (with_reducible refine c2.mono ?_); rintro e w_c2 ⟨rfl, b_c2⟩; have z_c2 := b_c2.size; have r0 := (bcell b_c2).1 be 0 (by omega); have r1 := (bcell b_c2).1 be 1 (by omega))
            have td : Two (w_c2.alloc (.cells #[.int .u64 (E.1.val : Nat), .int .u64 (E.2.val : Nat)] 27)) w_c2.heap.size (.int .u64 (E.1.val : Nat)) (.int .u64 (E.2.val : Nat)) := by (repeat' (first | (with_reducible assumption) | (with_reducible exact Two.own (by with_reducible assumption)) | (with_reducible refine Two.set ?_ _ _) | (with_reducible refine Own2.set ?_ _ _) | (with_reducible refine Two.drew ?_) | (with_reducible refine Two.drewN ?_ _) | (with_reducible refine Own2.drew ?_) | (with_reducible refine Own2.drewN ?_ _) | (with_reducible refine Two.new ?_; simp only [World.size_alloc, World.size_setCell, World.size_drew, size_drewN]; done) | (with_reducible refine Own2.new ?_; simp only [World.size_alloc, World.size_setCell, World.size_drew, size_drewN]; done) | (with_reducible refine Two.alloc ?_ _) | (with_reducible refine Own2.alloc ?_ _) | (with_reducible refine Two.far ?_ ?_ _ _) | (with_reducible refine Own2.far ?_ ?_ _ _) | (with_reducible refine Two.via (by with_reducible assumption) ?_ ?_) | (with_reducible refine Own2.via (by with_reducible assumption) ?_ ?_) | omega | (simp only [World.size_alloc, World.size_setCell, World.size_drew, size_drewN]; omega)))
            have te3 : Two (w_c2.alloc (.cells #[.int .u64 (E.1.val : Nat), .int .u64 (E.2.val : Nat)] 27)) be (.int .u64 (E.1.val : Nat)) (.int .u64 (E.2.val : Nat)) := by clear hB5; (repeat' (first | (with_reducible assumption) | (with_reducible exact Two.own (by with_reducible assumption)) | (with_reducible refine Two.set ?_ _ _) | (with_reducible refine Own2.set ?_ _ _) | (with_reducible refine Two.drew ?_) | (with_reducible refine Two.drewN ?_ _) | (with_reducible refine Own2.drew ?_) | (with_reducible refine Own2.drewN ?_ _) | (with_reducible refine Two.new ?_; simp only [World.size_alloc, World.size_setCell, World.size_drew, size_drewN]; done) | (with_reducible refine Own2.new ?_; simp only [World.size_alloc, World.size_setCell, World.size_drew, size_drewN]; done) | (with_reducible refine Two.alloc ?_ _) | (with_reducible refine Own2.alloc ?_ _) | (with_reducible refine Two.far ?_ ?_ _ _) | (with_reducible refine Own2.far ?_ ?_ _ _) | (with_reducible refine Two.via (by with_reducible assumption) ?_ ?_) | (with_reducible refine Own2.via (by with_reducible assumption) ?_ ?_) | omega | (simp only [World.size_alloc, World.size_setCell, World.size_drew, size_drewN]; omega)))
            have hB6 : Below w.heap.size w (w_c2.alloc (.cells #[.int .u64 (E.1.val : Nat), .int .u64 (E.2.val : Nat)] 27)) := by (repeat' (first | (with_reducible exact Below.refl _ _) | (with_reducible assumption) | (with_reducible refine Below.alloc ?_ ?_ _) | (with_reducible refine Below.drew ?_) | (with_reducible refine below_drewN ?_ _) | (with_reducible refine Below.setCell ?_ ?_ _) | (with_reducible refine below_via (by with_reducible assumption) ?_ ?_) | omega | (simp only [World.size_alloc, World.size_setCell, World.size_drew, size_drewN]; omega) | (simp only [World.size_alloc, World.size_setCell, World.size_drew, size_drewN] at *; omega)))
            go_region_held3 (fun w' => w'.cell? ⟨w_c2.heap.size, 0, none⟩ = some (.int .u64 (E.1.val : Nat)) ∧ w'.cell? ⟨w_c2.heap.size, 1, none⟩ = some (.int .u64 (E.2.val : Nat)) ∧ w'.cell? ⟨be, 0, none⟩ = some (.int .u64 (E.1.val : Nat)) ∧ w'.cell? ⟨be, 1, none⟩ = some (.int .u64 (E.2.val : Nat))) ((refine cells_and (cells2 ?_) (cells2 ?_) <;> (repeat' (first | (with_reducible assumption) | (with_reducible exact Two.own (by with_reducible assumption)) | (with_reducible refine Two.set ?_ _ _) | (with_reducible refine Own2.set ?_ _ _) | (with_reducible refine Two.drew ?_) | (with_reducible refine Two.drewN ?_ _) | (with_reducible refine Own2.drew ?_) | (with_reducible refine Own2.drewN ?_ _) | (with_reducible refine Two.new ?_; simp only [World.size_alloc, World.size_setCell, World.size_drew, size_drewN]; done) | (with_reducible refine Own2.new ?_; simp only [World.size_alloc, World.size_setCell, World.size_drew, size_drewN]; done) | (with_reducible refine Two.alloc ?_ _) | (with_reducible refine Own2.alloc ?_ _) | (with_reducible refine Two.far ?_ ?_ _ _) | (with_reducible refine Own2.far ?_ ?_ _ _) | (with_reducible refine Two.via (by with_reducible assumption) ?_ ?_) | (with_reducible refine Own2.via (by with_reducible assumption) ?_ ?_) | omega | (simp only [World.size_alloc, World.size_setCell, World.size_drew, size_drewN]; omega)))))
              (fail)
            all_goals
              go_wp2
              go_ret
              exact ⟨rfl, by (repeat' (first | (with_reducible exact Below.refl _ _) | (with_reducible assumption) | (with_reducible refine Below.alloc ?_ ?_ _) | (with_reducible refine Below.drew ?_) | (with_reducible refine below_drewN ?_ _) | (with_reducible refine Below.setCell ?_ ?_ _) | (with_reducible refine below_via (by with_reducible assumption) ?_ ?_) | omega | (simp only [World.size_alloc, World.size_setCell, World.size_drew, size_drewN]; omega) | (simp only [World.size_alloc, World.size_setCell, World.size_drew, size_drewN] at *; omega)))⟩

theorem pairStays_walk (a0 : Option Addr) (len0 cap0 : Nat) (z0 : Nat → P3) (a1 : Option Addr) (len1 cap1 : Nat) (z1 : Nat → P3) (w : World) (w0 : PtsAt w a0 len0 z0) (u0 : ∀ i, i < len0 → P3w (z0 i)) (w1 : PtsAt w a1 len1 z1) (u1 : ∀ i, i < len1 → P3w (z1 i)) :
    Calls Try.prog 7 #[.slice a0 len0 cap0, .slice a1 len1 cap1] w fun e w' => e = .returned (.bool true) ∧ Below w.heap.size w w' := by
  by_cases h : 4 < len0 ∨ 4 < len1
  · exact pstays_big _ _ _ _ _ _ h w upW
  · exact pstays_core _ _ _ _ _ _ (by omega) (by omega) z0 z1 u0 u1 w w0 w1
end Go.Proofs.Ytlimcjpnendcdaa
