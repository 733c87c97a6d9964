/-
  Joined texts: The library's contracts on sorting (and the like), laid at this seat's program: each an application of what the shelf proves over any program. The walk of package rank's rising: the places of a list's terms, by rising variables. The walk of package rank's Sum: a list summed up. What package rank's calls answer. The document's own answers of layer 11 (package obolref11): light systems; sound systems.
-/
import Derived.Shelf.Small.Bits
import Derived.Shelf.Small.Wraps
import Derived.Shelf.Strconv.Itoa0
import Derived.Shelf.Bits.Mul64
import Derived.Ground.Names2Prog
import Derived.Shelf.Slices.SearchI
import Derived.Ground.SlsfProg
import Derived.Shelf.SlSortCmp.Whole1
import Derived.Test.YtckjojmphdoghaaDoorProg
import Derived.Test.YtckjojmphdoghaaDoorJ3
import Derived.Test.YtckjojmphdoghaaDoorJ4
import Derived.Shelf.SlSortCmp.NoneTotal

namespace Go.Proofs
open Go.Shelf
def Tryd.lays122_ren : Go.Shelf.Ren := ⟨fun | 122 => 36 | 215 => 51 | n => n, fun | 3 => 3 | 4 => 4 | n => n, fun | n => n⟩
theorem Tryd.lays122 : Go.Proofs.Lays.n122 Tryd.prog Tryd.lays122_ren := {
  mixed := by kernel_rfl
  f122 := Tryd.func36.trans (congrArg some (by kernel_rfl))
  f215 := Tryd.func51.trans (congrArg some (by kernel_rfl))
  t3 := Tryd.underlying3
  a3 := Tryd.isAgg3
  z3 := Tryd.sizeOf3
  v3 := Tryd.zeroValue3
  t4 := Tryd.underlying4
  a4 := Tryd.isAgg4
  z4 := Tryd.sizeOf4
  v4 := Tryd.zeroValue4 }
open Go.RowKit in
theorem Tryd.cmp_Compare_int (x y : Int) (w : World) :
    Calls Tryd.prog 36 #[.int .i64 x, .int .i64 y] w fun e w' => e = .returned (.int .i64 (Lib.compareInt x y)) ∧ w' = w := Any.cmp_Compare_int Tryd.lays122 x y w
def Tryd.laysSlF6_f34_ren : Go.Shelf.Ren := ⟨fun | 6 => 34 | 15 => 50 | 14 => 49 | 28 => 65 | 29 => 66 | 20 => 57 | 21 => 58 | 22 => 59 | 23 => 60 | 24 => 61 | 25 => 62 | 26 => 63 | 27 => 64 | 46 => 68 | 47 => 69 | 48 => 70 | 49 => 71 | 50 => 72 | 57 => 73 | n => n, fun | 22 => 50 | 24 => 3 | 25 => 65 | 3 => 3 | 39 => 83 | 0 => 0 | 53 => 113 | 55 => 34 | 4 => 4 | 46 => 106 | 45 => 105 | 50 => 110 | 5 => 5 | 9 => 9 | 66 => 115 | 70 => 119 | 76 => 121 | 77 => 39 | n => n, fun | n => n⟩
theorem Tryd.laysSlF6_f34 : Go.Proofs.SlLaysF.n6 Tryd.prog Tryd.laysSlF6_f34_ren := {
  mixed := by kernel_rfl
  f6 := ⟨Tryd.f34.name, by decide, Tryd.func34.trans (congrArg some (by kernel_rfl))⟩
  f14 := ⟨Tryd.f49.name, by decide, Tryd.func49.trans (congrArg some (by kernel_rfl))⟩
  f15 := Tryd.func50.trans (congrArg some (by kernel_rfl))
  f20 := ⟨Tryd.f57.name, by decide, Tryd.func57.trans (congrArg some (by kernel_rfl))⟩
  f21 := ⟨Tryd.f58.name, by decide, Tryd.func58.trans (congrArg some (by kernel_rfl))⟩
  f22 := ⟨Tryd.f59.name, by decide, Tryd.func59.trans (congrArg some (by kernel_rfl))⟩
  f23 := ⟨Tryd.f60.name, by decide, Tryd.func60.trans (congrArg some (by kernel_rfl))⟩
  f24 := ⟨Tryd.f61.name, by decide, Tryd.func61.trans (congrArg some (by kernel_rfl))⟩
  f25 := ⟨Tryd.f62.name, by decide, Tryd.func62.trans (congrArg some (by kernel_rfl))⟩
  f26 := ⟨Tryd.f63.name, by decide, Tryd.func63.trans (congrArg some (by kernel_rfl))⟩
  f27 := ⟨Tryd.f64.name, by decide, Tryd.func64.trans (congrArg some (by kernel_rfl))⟩
  f28 := Tryd.func65.trans (congrArg some (by kernel_rfl))
  f29 := Tryd.func66.trans (congrArg some (by kernel_rfl))
  f46 := ⟨Tryd.f68.name, by decide, Tryd.func68.trans (congrArg some (by kernel_rfl))⟩
  f47 := Tryd.func69.trans (congrArg some (by kernel_rfl))
  f48 := Tryd.func70.trans (congrArg some (by kernel_rfl))
  f49 := ⟨Tryd.f71.name, by decide, Tryd.func71.trans (congrArg some (by kernel_rfl))⟩
  f50 := ⟨Tryd.f72.name, by decide, Tryd.func72.trans (congrArg some (by kernel_rfl))⟩
  f57 := ⟨Tryd.f73.name, by decide, Tryd.func73.trans (congrArg some (by kernel_rfl))⟩
  t0 := Tryd.underlying0
  a0 := Tryd.isAgg0
  z0 := Tryd.sizeOf0
  v0 := Tryd.zeroValue0
  t3 := Tryd.underlying3
  a3 := Tryd.isAgg3
  z3 := Tryd.sizeOf3
  v3 := Tryd.zeroValue3
  t4 := Tryd.underlying4
  a4 := Tryd.isAgg4
  z4 := Tryd.sizeOf4
  v4 := Tryd.zeroValue4
  t5 := Tryd.underlying5
  a5 := Tryd.isAgg5
  z5 := Tryd.sizeOf5
  v5 := Tryd.zeroValue5
  t9 := Tryd.underlying9
  a9 := Tryd.isAgg9
  z9 := Tryd.sizeOf9
  v9 := Tryd.zeroValue9
  t22 := Tryd.underlying50
  a22 := Tryd.isAgg50
  z22 := Tryd.sizeOf50
  v22 := Tryd.zeroValue50
  a24 := Tryd.isAgg3
  z24 := Tryd.sizeOf3
  t25 := Tryd.underlying65
  a25 := Tryd.isAgg65
  z25 := Tryd.sizeOf65
  v25 := Tryd.zeroValue65
  t39 := Tryd.underlying83
  a39 := Tryd.isAgg83
  z39 := Tryd.sizeOf83
  v39 := Tryd.zeroValue83
  t45 := Tryd.underlying105
  a45 := Tryd.isAgg105
  z45 := Tryd.sizeOf105
  v45 := Tryd.zeroValue105
  t46 := Tryd.underlying106
  a46 := Tryd.isAgg106
  z46 := Tryd.sizeOf106
  v46 := Tryd.zeroValue106
  t50 := Tryd.underlying110
  a50 := Tryd.isAgg110
  z50 := Tryd.sizeOf110
  v50 := Tryd.zeroValue110
  t53 := Tryd.underlying113
  a53 := Tryd.isAgg113
  z53 := Tryd.sizeOf113
  v53 := Tryd.zeroValue113
  t55 := Tryd.underlying34
  a55 := Tryd.isAgg34
  z55 := Tryd.sizeOf34
  v55 := Tryd.zeroValue34
  t66 := Tryd.underlying115
  a66 := Tryd.isAgg115
  z66 := Tryd.sizeOf115
  v66 := Tryd.zeroValue115
  t70 := Tryd.underlying119
  a70 := Tryd.isAgg119
  z70 := Tryd.sizeOf119
  v70 := Tryd.zeroValue119
  t76 := Tryd.underlying121
  a76 := Tryd.isAgg121
  z76 := Tryd.sizeOf121
  v76 := Tryd.zeroValue121
  t77 := Tryd.underlying39
  a77 := Tryd.isAgg39
  z77 := Tryd.sizeOf39
  v77 := Tryd.zeroValue39 }
open Go.RowKit Go.Lib Go.Sort in
theorem Tryd.slices_SortFunc {α : Type} [Inhabited α] (enc : α → Value) (h1 : OneCell enc) (cf : α → α → Int) (hO : SWO (ltOf cf)) (g : Nat) (cb : Array Value) (blk off cap : Nat) (d : Array α) (w : World) (eg : ∀ args w, (callFunc g args).run Tryd.prog w = .ok (.enter g args) w) (hcmp : CmpLays1 Tryd.prog g cb enc cf blk off d.size w) (hH : Holds enc w blk off d) (hblk : blk < w.heap.size) (hsz : d.size < 4611686018427387904) :
    Calls Tryd.prog 34 #[.slice (some ⟨blk, off, none⟩) d.size cap, .func (.func g) #[] cb] w fun e w' =>
      e = .returned (.tuple #[]) ∧ ∃ d' n os, PermIn 0 d.size d d' ∧ SortedIn (ltOf cf) 0 d.size d' ∧ w' = sortWorld enc w blk off n d' os := Any.slices_SortFunc Tryd.laysSlF6_f34 enc h1 cf hO g cb blk off cap d w eg hcmp hH hblk hsz
end Go.Proofs

namespace Go.Proofs.YtckjojmphdoghaaDoor
open Go.RowKit Go.Proofs Go.Sort
set_option linter.unusedVariables false
set_option linter.unusedSimpArgs false
attribute [local go_sem ↓] Go.wp_at_zero Go.wp_at_succ
/-- How two places compare. -/
def cmpP (L : Lst) {n : Nat} (x y : Plc n) : Int := Lib.compareInt (L.V x.1) (L.V y.1)
theorem ltP (L : Lst) {n : Nat} (x y : Plc n) : ltOf (cmpP L) x y = decide (L.V x.1 < L.V y.1) := by
  unfold ltOf cmpP Lib.compareInt
  by_cases h1 : L.V x.1 < L.V y.1
  · simp [h1]
  · by_cases h2 : L.V y.1 < L.V x.1 <;> simp [h1, h2]
theorem swoP (L : Lst) {n : Nat} : SWO (ltOf (cmpP L (n := n))) where
  irrefl x := by rw [ltP]; simp
  trans x y z h1 h2 := by rw [ltP] at *; simp at *; omega
  ntrans x y z h1 h2 := by rw [ltP] at *; simp at *; omega
set_option maxHeartbeats 4000000 in
/-- The comparison that is handed to the sort. -/
theorem nrise1W (L : Lst) (x y : Nat) (hx : x < L.n) (hy : y < L.n) (N : Nat) (w : World) (hc : w.cell? ⟨N, 0, none⟩ = some L.val) (hA : L.At w.heap.size w) :
    Calls Tryd.prog 35 #[.int .i64 x, .int .i64 y, .pointer (some ⟨N, 0, none⟩)] w fun e w' => e = .returned (.int .i64 (Lib.compareInt (L.V x) (L.V y))) ∧ ∃ q, w' = w.drewN q := by
  have hcon := Tryd.cmp_Compare_int (L.V x) (L.V y)
  rcases hA with hz | ⟨b, off, hb, lb, tb⟩
  · omega
  have c0 := tb.c0 x hx
  have c1 := tb.c0 y hy
  unfold Lst.val at hc
  rw [hb] at hc
  have hx' : (x : Int) < (L.n : Int) := by omega
  have hy' : (y : Int) < (L.n : Int) := by omega
  generalize Lib.compareInt (L.V x) (L.V y) = r at *
  generalize L.V x = Vx at *
  generalize L.V y = Vy at *
  clear tb lb hb
  go_enter Tryd.func35, Tryd.ntmps35
  go_upto_region 1 with (fail)
  go_region_held3 (fun w' : World => w'.cell? ⟨N, 0, none⟩ = some (.slice (some ⟨b, off, none⟩) L.n L.c) ∧ w'.cell? ⟨b, off + x * 2, none⟩ = some (.int .i64 Vx) ∧ w'.cell? ⟨b, off + y * 2, none⟩ = some (.int .i64 Vy)) (go_keep)
    ((go_at_call 36; (with_reducible refine (hcon _).mono ?_); rintro e w' ⟨rfl, rfl⟩))
  go_wp2
  (try go_ret)
  exact ⟨rfl, 1, rfl⟩
set_option maxHeartbeats 4000000 in
/-- The sort of places. -/
theorem nsortW (L : Lst) (hLn : 0 < L.n) (hLm : L.n ≤ 1000000) (N base g n cap : Nat) (ps : List Nat) (w : World) (hc : w.cell? ⟨N, 0, none⟩ = some L.val) (hNb : N < base) (hA : L.At (N + 1) w) (hown : OwnP w base (.slice (some ⟨g, 0, none⟩) n cap) ps) (hps : ∀ p ∈ ps, p < L.n) (hpl : ps.length ≤ 1000000) :
    Calls Tryd.prog 34 #[.slice (some ⟨g, 0, none⟩) n cap, .func (.func 35) #[] #[.pointer (some ⟨N, 0, none⟩)]] w fun e w' =>
      e = .returned (.tuple #[]) ∧ ∃ ps', ps'.Perm ps ∧ ps'.Pairwise (fun p q => L.V p ≤ L.V q) ∧ OwnP w' base (.slice (some ⟨g, 0, none⟩) n cap) ps' ∧ Below base w w' := by
  letI : Inhabited (Plc L.n) := ⟨⟨0, hLn⟩⟩
  obtain ⟨dl, hdl⟩ := plc_list hps
  have hn := hown.len
  have hd : (dl.toArray.toList.map (·.1)) = ps := by simpa using hdl
  have hds : dl.toArray.size = n := by rw [hn, ← hdl]; simp
  generalize dl.toArray = d at *
  subst hd
  subst hds
  have hgb : base ≤ g ∧ g < w.heap.size := hown.lt g rfl
  have eg : ∀ args w, (callFunc 35 args).run Tryd.prog w = .ok (.enter 35 args) w := enters_of Tryd.func35 (by kernel_rfl) rfl
  have hcmp : CmpReads Tryd.prog 35 #[.pointer (some ⟨N, 0, none⟩)] (encP (n := L.n)) (cmpP L (n := L.n)) g 0 d.size w := fun m os dk hs x y => by
    have hb : Below base w (sortWorld encP w g 0 m dk os) := sort_below encP w base g m dk os hgb.1 (by omega)
    exact nrise1W L x.1 y.1 x.2 y.2 N _ (by rw [(bcell hb).1 N 0 hNb]; exact hc) ((TrmsAt.below hA (hb.mono (by omega))).mono (by have := hb.size; omega))
  have h := Tryd.slices_SortFunc (encP (n := L.n)) (fun _ => rfl) (cmpP L (n := L.n)) (swoP L) 35 #[.pointer (some ⟨N, 0, none⟩)] g 0 cap d w eg hcmp.lays hown.holds hgb.2 (by
    simp at hpl
    omega)
  refine h.mono fun e w' ⟨he, d', m, os, hp, hs, hw⟩ => ?_
  subst hw
  refine ⟨he, d'.toList.map (·.1), ?_, ?_, hown.sorted d' hp.1 m os, sort_below encP w base g m d' os hgb.1 (by omega)⟩
  · have h3 := hp.2.2
    have e1 : d'.extract 0 d.size = d' := by rw [← hp.1]; simp
    have e2 : d.extract 0 d.size = d := by simp
    rw [e1, e2] at h3
    exact h3.map _
  · rw [List.pairwise_map]
    rw [List.pairwise_iff_getElem]
    intro i j hi hj hij
    have hi' : i < d'.size := by simpa using hi
    have hj' : j < d'.size := by simpa using hj
    have h4 := hs i j (Nat.zero_le _) hij (by rw [← hp.1]; exact hj')
    rw [ltP, getElem!_pos d' j hj', getElem!_pos d' i hi'] at h4
    have := of_decide_eq_false h4
    simp only [Array.getElem_toList]
    omega
/-- What the sort of a list's places answers, in a world in which cell N holds the list. -/
def SortC (L : Lst) (N : Nat) : Prop := ∀ (g n cap : Nat) (w : World), w.cell? ⟨N, 0, none⟩ = some L.val → L.At (N + 1) w → OwnP w (N + 1) (.slice (some ⟨g, 0, none⟩) n cap) (plcs L L.n) →
    Calls Tryd.prog 34 #[.slice (some ⟨g, 0, none⟩) n cap, .func (.func 35) #[] #[.pointer (some ⟨N, 0, none⟩)]] w fun e w' =>
      e = .returned (.tuple #[]) ∧ ∃ ps', ps'.Perm (plcs L L.n) ∧ ps'.Pairwise (fun p q => L.V p ≤ L.V q) ∧ OwnP w' (N + 1) (.slice (some ⟨g, 0, none⟩) n cap) ps' ∧ Below (N + 1) w w'
theorem sortC (L : Lst) (hLm : L.n ≤ 1000000) (N : Nat) : SortC L N := by
  intro g n cap w hc hA hown
  have hlen := plcs_len L L.n
  rcases Nat.eq_zero_or_pos L.n with h | h
  · have e : plcs L L.n = [] := by rw [h]; rfl
    have hn := hown.len
    rw [e] at hn
    obtain rfl : n = 0 := hn
    have hS := AnyF.slices_SortFunc_none (P := Tryd.prog) (ρ := Tryd.laysSlF6_f34_ren) { Tryd.laysSlF6_f34 with } (some ⟨g, 0, none⟩) cap (.func (.func 35) #[] #[.pointer (some ⟨N, 0, none⟩)]) w
    change Calls Tryd.prog 34 _ _ _ at hS
    refine hS.mono fun e1 w' ⟨he, hw⟩ => ?_
    subst hw
    refine ⟨he, plcs L L.n, List.Perm.refl _, by rw [e]; exact List.Pairwise.nil, hown, Below.refl _ _⟩
  · exact nsortW L h hLm N (N + 1) g n cap (plcs L L.n) w hc (by omega) hA hown (fun p hp => (plcs_mem hp).1) (by omega)
set_option maxRecDepth 4000 in
set_option maxHeartbeats 16000000 in
theorem nrising_core (L : Lst) (hL : L.Ok) (hLm : L.n ≤ 1000000) (w : World) (hA : L.At w.heap.size w) (cs : SortC L w.heap.size) :
    Calls Tryd.prog 23 #[L.val] w fun e w' => ∃ v ps, e = .returned v ∧ OwnP w' w.heap.size v ps ∧ ps.Perm (plcs L L.n) ∧ ps.Pairwise (fun p q => L.V p ≤ L.V q) ∧ Below w.heap.size w w' := by
  have hA' : Hid (L.At w.heap.size w) := hA
  have hL' : Hid L.Ok := hL
  have cs' : Hid (SortC L w.heap.size) := cs
  clear hA hL cs
  unfold Lst.val
  go_enter Tryd.func23, Tryd.ntmps23
  go_upto_region 1 with (fail)
  have hc1 : (w.alloc (.cells #[.slice L.ad L.n L.c] 31)).cell? ⟨w.heap.size, 0, none⟩ = some (.slice L.ad L.n L.c) := by simp [go_sem]
  have hB1 : Below w.heap.size w (w.alloc (.cells #[.slice L.ad L.n L.c] 31)) := by (repeat' (first | (with_reducible first | exact Below.refl _ _ | assumption | refine Below.alloc ?_ ?_ _ | refine Below.drew ?_ | refine below_drewN ?_ _ | refine Below.setCell ?_ ?_ _ | refine below_via (by with_reducible assumption) ?_ ?_) | omega | (simp only [szs]; omega) | (simp only [szs] at *; omega)))
  have z1 : (w.alloc (.cells #[.slice L.ad L.n L.c] 31)).heap.size = w.heap.size + 1 := World.size_alloc _ _
  generalize (w.alloc (.cells #[.slice L.ad L.n L.c] 31)) = W1 at *
  obtain ⟨g0, W2, hmk, hown0, hB2⟩ := make_plc L.n hLm W1 (w.heap.size + 1) (by omega)
  have hB1' : Hid (Below w.heap.size w W1) := hB1
  have hB2' : Hid (Below W1.heap.size W1 W2) := hB2
  have hown0' : Hid (OwnP W2 (w.heap.size + 1) (.slice (some ⟨g0, 0, none⟩) 0 L.n) []) := hown0
  have z2 := hB2.size
  clear hB1 hB2 hown0
  go_upto_region 2 with (fail)
  have hc2 : W2.cell? ⟨w.heap.size, 0, none⟩ = some (.slice L.ad L.n L.c) := by rw [(bcell hB2'.out).1 _ _ (by omega)]; exact hc1
  have hBW : Hid (Below w.heap.size w W2) := below_via hB2'.out hB1'.out (by omega)
  clear hmk hc1 hB1' hB2'
  go_wp2
  go_loopw [3, 11] (fun so si wr => ∃ (i n g cap : Nat), i ≤ L.n ∧ so = .slice (some ⟨g, 0, none⟩) n cap ∧ si = .int .i64 i ∧ Below (w.heap.size + 1) W2 wr ∧ Hid (OwnP wr (w.heap.size + 1) (.slice (some ⟨g, 0, none⟩) n cap) (plcs L i))) (fun so si _ => L.n - (intOf si).toNat)
  case atStart => exact ⟨0, 0, g0, L.n, by omega, rfl, rfl, Below.refl _ _, hown0'.out⟩
  case round =>
    obtain ⟨i, n, g, cap, hi, rfl, rfl, hB, hown⟩ := hrel
    have zB := hB.size
    clear hown0'
    by_cases hlt : i < L.n
    · have hlt' : (i : Int) < (L.n : Int) := by omega
      rcases hA'.out with hz | ⟨b, off, hb, lb, tb⟩
      · omega
      have tb2 := (tb.below hBW.out lb).below hB (by omega)
      have c0 := tb2.c0 i hlt
      have c1 := tb2.c1 i hlt
      have hyes : Hid (0 ≤ L.V i → plcs L (i + 1) = plcs L i ++ [i]) := plcs_yes
      have hnot : Hid (¬ 0 ≤ L.V i → plcs L (i + 1) = plcs L i) := plcs_no
      have hlen : Hid ((plcs L i).length ≤ i) := plcs_len L i
      rw [hb]
      generalize L.V i = x at *
      generalize L.K i = k at *
      clear tb tb2 lb
      by_cases h0 : 0 ≤ x
      · have hP := hyes.out h0
        have hP' : Hid (plcs L (i + 1) = plcs L i ++ [i]) := hP
        clear hyes hnot hP
        go_upto_region 6 with (fail)
        have hB3 : Hid (Below (w.heap.size + 1) W2 (wr.alloc (.cells #[.int .i64 x, .int .u64 (k : Nat)] 46))) := by show Below _ _ _; (repeat' (first | (with_reducible first | exact Below.refl _ _ | assumption | refine Below.alloc ?_ ?_ _ | refine Below.drew ?_ | refine below_drewN ?_ _ | refine Below.setCell ?_ ?_ _ | refine below_via (by with_reducible assumption) ?_ ?_) | omega | (simp only [szs]; omega) | (simp only [szs] at *; omega)))
        have hown3 : Hid (OwnP (wr.alloc (.cells #[.int .i64 x, .int .u64 (k : Nat)] 46)) (w.heap.size + 1) (.slice (some ⟨g, 0, none⟩) n cap) (plcs L i)) := hown.out.on ((Below.refl _ _).alloc (Nat.le_refl _) _)
        generalize (wr.alloc (.cells #[.int .i64 x, .int .u64 (k : Nat)] 46)) = W3 at *
        clear c0 c1 hB hown
        have hB := hB3.out
        have zB3 := hB.size
        clear hB3
        have hown4 : Hid (OwnP (W3.alloc (.cells #[.int .i64 (i : Nat)] 3)) (w.heap.size + 1) (.slice (some ⟨g, 0, none⟩) n cap) (plcs L i)) := hown3.out.on ((Below.refl _ _).alloc (Nat.le_refl _) _)
        have q0 : Hid ((W3.alloc (.cells #[.int .i64 (i : Nat)] 3)).cell? ⟨W3.heap.size, 0, none⟩ = some (.int .i64 (i : Nat))) := by show _ = _; simp [go_sem]
        go_wp2_with (at_builtin; refine wpList_appP rfl _ _ rfl (w.heap.size + 1) _ (plcs L i) i rfl hown4.out W3.heap.size rfl q0.out (by have := hlen.out; omega) (by simp only [szs]; omega) ?_; intro g' n' cap' w1 ho hb1)
        have ho' : Hid (OwnP w1 (w.heap.size + 1) (.slice (some ⟨g', 0, none⟩) n' cap') (plcs L (i + 1))) := by show OwnP _ _ _ _; rw [hP'.out]; exact ho
        have hB4 : Below (w.heap.size + 1) W2 w1 := (hB.alloc (by omega) _).trans hb1
        clear ho hb1 q0 hown4 hown3 hB
        go_roundw
        case rel => exact ⟨i + 1, n', g', cap', by omega, by first | rfl | trivial, by go_num, hB4, ho'⟩
        case measure => (simp [intOf]; omega)
      · have hP' : Hid (plcs L (i + 1) = plcs L i) := hnot.out h0
        have ho' : Hid (OwnP (wr.alloc (.cells #[.int .i64 x, .int .u64 (k : Nat)] 46)) (w.heap.size + 1) (.slice (some ⟨g, 0, none⟩) n cap) (plcs L (i + 1))) := by show OwnP _ _ _ _; rw [hP'.out]; exact hown.out.on ((Below.refl _ _).alloc (Nat.le_refl _) _)
        clear hyes hnot hown
        go_wp2
        go_roundw
        case rel => exact ⟨i + 1, n, g, cap, by omega, by first | rfl | trivial, by go_num, by (repeat' (first | (with_reducible first | exact Below.refl _ _ | assumption | refine Below.alloc ?_ ?_ _ | refine Below.drew ?_ | refine below_drewN ?_ _ | refine Below.setCell ?_ ?_ _ | refine below_via (by with_reducible assumption) ?_ ?_) | omega | (simp only [szs]; omega) | (simp only [szs] at *; omega))), ho'⟩
        case measure => (simp [intOf]; omega)
    · have hlt' : ¬ (i : Int) < (L.n : Int) := by omega
      obtain rfl : i = L.n := by omega
      have hc3 : wr.cell? ⟨w.heap.size, 0, none⟩ = some L.val := by rw [(bcell hB).1 _ _ (by omega)]; exact hc2
      have hA3 : L.At (w.heap.size + 1) wr := (TrmsAt.below (hA'.out.below hBW.out) (hB.mono (by omega))).mono (by omega)
      have hs := cs'.out g n cap wr hc3 hA3 hown.out
      clear hc3 hA3
      go_wp2_with (go_at_call 34; (with_reducible refine hs.mono ?_); rintro e w5 ⟨rfl, ps', hp, hpw, ho, hb5⟩)
      (try go_ret)
      exact ⟨_, ps', rfl, ho.mono (by omega), hp, hpw, (hBW.out.trans (hB.mono (by omega))).trans (hb5.mono (by omega))⟩
theorem nrisingW (L : Lst) (hL : L.Ok) (hLm : L.n ≤ 1000000) (w : World) (hA : L.At w.heap.size w) :
    Calls Tryd.prog 23 #[L.val] w fun e w' => ∃ v ps, e = .returned v ∧ OwnP w' w.heap.size v ps ∧ ps.Perm (plcs L L.n) ∧ ps.Pairwise (fun p q => L.V p ≤ L.V q) ∧ Below w.heap.size w w' :=
  nrising_core L hL hLm w hA (sortC L hLm _)
end Go.Proofs.YtckjojmphdoghaaDoor

namespace Go.Proofs.YtckjojmphdoghaaDoor
open Go.RowKit Go.Proofs
set_option linter.unusedVariables false
set_option linter.unusedSimpArgs false
attribute [local go_sem ↓] Go.wp_at_zero Go.wp_at_succ
/-- Room for terms. -/
theorem make_trm (m : Nat) (hm : m ≤ 1000000) (w : World) (base : Nat) (hb : base ≤ w.heap.size) (V : Nat → Int) (K : Nat → Nat) : ∃ g w', (Instr.makeSlice 31 (.int .i64 0) (.int .i64 (m : Nat))).run Tryd.prog w = .ok (.slice (some ⟨g, 0, none⟩) 0 m) w' ∧ OwnT w' base (.slice (some ⟨g, 0, none⟩) 0 m) 0 V K ∧ Below w.heap.size w w' := by
  obtain ⟨i0, hi, hz1, hz2, hz0⟩ := trmInfo
  obtain ⟨w', h1, h2, h3⟩ := run_make_own (P := Tryd.prog) w base 31 46 i0 _ 2 Tryd.underlying31 hi hz0 hz1 .i64 .i64 m (by rw [hz2]; omega) (by unfold maxLen; omega) hb
  exact ⟨_, w', h1, h2, (Below.refl _ w).grown h3 (Nat.le_refl _) (fun k hk => by cases hk)⟩
set_option maxRecDepth 4000 in
set_option maxHeartbeats 16000000 in
theorem nsumW (L : Lst) (hL : L.Ok) (hLm : L.n ≤ 1000000) (w : World) (hA : L.At w.heap.size w) :
    Calls Tryd.prog 12 #[L.val] w fun e w' => ∃ v, e = .returned v ∧ SumRes L w w' v ∧ Below w.heap.size w w' := by
  have hA' : Hid (L.At w.heap.size w) := hA
  have hL' : Hid L.Ok := hL
  have cr : Hid (∀ W, L.At W.heap.size W → Calls Tryd.prog 23 #[L.val] W fun e w' => ∃ v ps, e = .returned v ∧ OwnP w' W.heap.size v ps ∧ ps.Perm (plcs L L.n) ∧ ps.Pairwise (fun p q => L.V p ≤ L.V q) ∧ Below W.heap.size W w') := fun W h => nrisingW L hL hLm W h
  clear hA hL
  obtain ⟨g0, W1, hmk, hown0, hB1⟩ := make_trm L.n hLm w w.heap.size (Nat.le_refl _) (fun _ => 0) (fun _ => 0)
  have hown0' : Hid (OwnT W1 w.heap.size (.slice (some ⟨g0, 0, none⟩) 0 L.n) 0 (fun _ => 0) (fun _ => 0)) := hown0
  have hB1' : Hid (Below w.heap.size w W1) := hB1
  have z1 := hB1.size
  have hg0 : g0 < W1.heap.size := (hown0.lt g0 rfl).2
  have c1 := cr.out W1 (TrmsAt.to hA'.out hB1 (Nat.le_refl _))
  unfold Lst.val at c1 ⊢
  clear hB1 hown0 cr
  go_enter Tryd.func12, Tryd.ntmps12
  go_upto_region 2 with (fail)
  clear hmk
  go_upto_region 3 with (go_at_call 23; (with_reducible refine c1.mono ?_); rintro e W2 ⟨v, ps, rfl, hP, hp, hpw, hB2⟩; obtain ⟨pa, pc, rfl⟩ := hP.form)
  have hown1 : Hid (OwnT W2 w.heap.size (.slice (some ⟨g0, 0, none⟩) 0 L.n) 0 (fun _ => 0) (fun _ => 0)) := hown0'.out.on hB2
  have hBW : Hid (Below w.heap.size w W2) := below_via hB2 hB1'.out (by omega)
  have hP1 : Hid (OwnP W2 w.heap.size (.slice pa ps.length pc) ps) := hP.mono (by omega)
  have hfar : Hid (∀ k, Value.ownBlock (.slice pa ps.length pc) = some k → k < W2.heap.size ∧ k ≠ g0) := fun k hk => by
    have := hP.lt k hk
    exact ⟨this.2, by omega⟩
  have hmem : Hid (∀ p ∈ ps, p < L.n ∧ 0 ≤ L.V p) := fun p hp' => plcs_mem (hp.subset hp')
  have hlen : ps.length ≤ L.n := by rw [hp.length_eq]; exact plcs_len L L.n
  have hp' : Hid (ps.Perm (plcs L L.n)) := hp
  have hsort : Hid (∀ i j (hi : i < ps.length) (hj : j < ps.length), i < j → L.V ps[i] ≤ L.V ps[j]) := List.pairwise_iff_getElem.1 hpw
  have hL1 := hL'.out.n1
  have hL2 := hL'.out.n2
  clear hP hp hpw hB2 hB1' hown0' c1
  obtain ⟨m, hm⟩ : ∃ m, Hid (ps.length = m) := ⟨_, rfl⟩
  rw [hm.out] at hP1 hfar hlen
  rw [hm.out]
  go_wp2
  go_loopw [3, 12] (fun so si wr => ∃ (i n g cap : Nat) (V : Nat → Int) (K : Nat → Nat), i ≤ m ∧ so = .slice (some ⟨g, 0, none⟩) n cap ∧ si = .int .i64 i ∧ n ≤ i ∧ Below w.heap.size w wr ∧ Hid (OwnT wr w.heap.size (.slice (some ⟨g, 0, none⟩) n cap) n V K) ∧ Hid (OwnP wr w.heap.size (.slice pa m pc) ps) ∧ Hid (∀ k, Value.ownBlock (.slice pa m pc) = some k → k < wr.heap.size ∧ k ≠ g) ∧
      Hid (SumF (fun v => lks L v (ps.take i)) n V K) ∧ Hid (∀ j, j < n → ∀ q (hq : q < ps.length), i ≤ q → V j ≤ L.V ps[q])) (fun so si _ => m - (intOf si).toNat)
  case atStart => exact ⟨0, 0, g0, L.n, _, _, by omega, rfl, rfl, by omega, hBW.out, hown1, hP1, hfar, SumF.zero (fun v => rfl) _ _, fun j hj => by omega⟩
  case round =>
    obtain ⟨i, n, g, cap, V, K, hi, rfl, rfl, hni, hB, hown, hP, hfr, hS, hle⟩ := hrel
    have zB := hB.size
    clear hown1 hBW hP1 hfar
    by_cases hlt : i < m
    · have hlt' : (i : Int) < (m : Int) := by omega
      have hil : i < ps.length := by rw [hm.out]; exact hlt
      obtain ⟨gp, rfl, hgp, d0⟩ := hP.out.at_ i hil
      obtain ⟨hpn, hp0⟩ := hmem.out ps[i] (List.getElem_mem hil)
      have htake : ps.take (i + 1) = ps.take i ++ [ps[i]] := by rw [List.take_succ_eq_append_getElem hil]
      have cj := njoinedW (fun v => lks L v (ps.take i)) (fun v => lks L v (ps.take (i + 1))) (L.V ps[i]) (L.K ps[i]) w.heap.size g n cap V K wr hp0 (hL'.out.V2 _) (hL'.out.K1 _) hown.out hS.out (fun j hj => hle.out j hj i hil (Nat.le_refl _)) (by omega) (fun v hv => by show lks L v _ = lks L v _; rw [htake]; exact lks_off hv) (by show lks L _ _ = lks L _ _ + _; rw [htake]; exact lks_on)
      have hstep : Hid (∀ q (hq : q < ps.length), i + 1 ≤ q → L.V ps[i] ≤ L.V ps[q]) := fun q hq h => hsort.out i q hil hq (by omega)
      rcases hA'.out with hz | ⟨b, off, hb, lb, tb⟩
      · omega
      have c0 := (tb.below hB lb).c0 _ hpn
      have c1 := (tb.below hB lb).c1 _ hpn
      have hpn' : (((ps[i] : Nat)) : Int) < (L.n : Int) := by omega
      have hg : w.heap.size ≤ g := (hown.out.lt g rfl).1
      rw [hb]
      clear tb lb htake
      generalize ps[i] = p at *
      clear hil
      generalize L.V p = x at *
      generalize L.K p = k at *
      go_wp2_with (go_at_call 24; (with_reducible refine cj.mono ?_); rintro e w5 ⟨g', n', cap', V', K', rfl, ho, hS2, hle2, hn2, hk2, hg2⟩)
      have ho' : Hid (OwnT w5 w.heap.size (.slice (some ⟨g', 0, none⟩) n' cap') n' V' K') := ho
      have hB5 : Below w.heap.size w w5 := hB.trans (hk2.below (fun k hk e => by subst e; omega) (by omega))
      have hP5 : Hid (OwnP w5 w.heap.size (.slice (some ⟨gp, 0, none⟩) m pc) ps) := own_keep hP.out hk2 (fun k hk => (hfr.out k hk).2)
      have hfr5 : Hid (∀ k, Value.ownBlock (.slice (some ⟨gp, 0, none⟩) m pc) = some k → k < w5.heap.size ∧ k ≠ g') := fun k hk => by
        have h1 := hfr.out k hk
        have h2 := hk2.size
        rcases hg2 with h3 | h3 <;> exact ⟨by omega, by omega⟩
      have hle5 : Hid (∀ j, j < n' → ∀ q (hq : q < ps.length), i + 1 ≤ q → V' j ≤ L.V ps[q]) := fun j hj q hq h => Int.le_trans (hle2 j hj) (hstep.out q hq h)
      have hS5 : Hid (SumF (fun v => lks L v (ps.take (i + 1))) n' V' K') := hS2
      clear ho hk2 hg2 hle2 hS2 cj hstep hown hP hfr hS hle
      go_roundw
      case rel => exact ⟨i + 1, n', g', cap', V', K', by omega, by first | rfl | trivial, by go_num, by omega, hB5, ho', hP5, hfr5, hS5, hle5⟩
      case measure => (simp [intOf]; omega)
    · have hlt' : ¬ (i : Int) < (m : Int) := by omega
      obtain rfl : i = m := by omega
      have hS6 : Hid (SumF (fun v => lks L v ps) n V K) := by
        have h := hS.out
        rw [← hm.out, List.take_length] at h
        exact h
      go_wp2
      (try go_ret)
      exact ⟨_, rfl, ⟨n, V, K, hown.out, hS6.out.whole hp'.out, by omega⟩, hB⟩
end Go.Proofs.YtckjojmphdoghaaDoor

namespace Go.Proofs.YtckjojmphdoghaaDoor
open Go.RowKit Go.Proofs
set_option linter.unusedVariables false
set_option linter.unusedSimpArgs false
theorem rankHoldsC : HoldsC 17 := fun vars pubs a m c R hO _ _ _ _ hm ad n d hn x hx bad at_ hH W hR hs => nHoldsW vars pubs a m c R hO hm ad n d hn x hx W hR hs bad at_ hH
theorem rankCheckC : CheckC 10 := fun vars pubs a m c R hO _ _ _ _ _ W hR => ncheckW vars pubs a m c R hO W hR
theorem rankValueC : ValueC 13 := fun L hL ad n c hn x hx W hA hs => nvalueW L hL ad n c (by omega) x hx W hA hs
theorem rankSumC : SumC 12 := fun L hL hLn W hA => nsumW L hL hLn W hA
end Go.Proofs.YtckjojmphdoghaaDoor

namespace Go.Proofs.YtckjojmphdoghaaDoor
open Go.RowKit Go.Proofs
set_option linter.unusedVariables false
set_option linter.unusedSimpArgs false
attribute [local go_sem ↓] Go.wp_at_zero Go.wp_at_succ

/-- Has a system few enough parts? -/
def lightR (R : Nat → Nat → Lst) : Nat → Bool
  | 0 => true
  | i + 1 => lightR R i && decide ((R i 0).n ≤ 60 ∧ (R i 1).n ≤ 60 ∧ (R i 2).n ≤ 60)
def lightB (m : Nat) (R : Nat → Nat → Lst) : Bool := decide (m ≤ 200) && lightR R m
theorem lightR_not {R : Nat → Nat → Lst} {n : Nat} (h : ¬ ((R n 0).n ≤ 60 ∧ (R n 1).n ≤ 60 ∧ (R n 2).n ≤ 60)) : ∀ {m : Nat}, n < m → lightR R m = false
  | m + 1, hm => by
    show (lightR R m && _) = false
    rcases Nat.lt_or_ge n m with h2 | h2
    · rw [lightR_not h h2]; rfl
    · obtain rfl : n = m := by omega
      rw [decide_eq_false h, Bool.and_false]
/-- A row's three lists, in memory. -/
theorem RowsIn.row {B : Nat} {w : World} {b off m : Nat} {R : Nat → Nat → Lst} (t : RowsIn B w b off m R) {i : Nat} (hi : i < m) :
    w.cell? ⟨b, off + i * 3, none⟩ = some (R i 0).val ∧ w.cell? ⟨b, off + i * 3 + 1, none⟩ = some (R i 1).val ∧ w.cell? ⟨b, off + i * 3 + 2, none⟩ = some (R i 2).val :=
  ⟨t.cell i hi 0 (by decide), t.cell i hi 1 (by decide), t.cell i hi 2 (by decide)⟩
set_option maxHeartbeats 4000000 in
theorem vlightW (vars pubs : Int) (a : Option Addr) (m c : Nat) (R : Nat → Nat → Lst) (w : World) (hR : RowsAt w.heap.size w a m R) :
    Calls Tryd.prog 9 #[rankV vars pubs a m c] w fun e w' => e = .returned (.bool (lightB m R)) ∧ Below w.heap.size w w' := by
  have hR' : Hid (RowsAt w.heap.size w a m R) := hR
  obtain ⟨S, hS⟩ : ∃ S, Hid (lightB m R = S) := ⟨_, rfl⟩
  rw [hS.out]
  clear hR
  unfold rankV
  by_cases hm : m ≤ 200
  · have hm1 : ¬ (200 : Int) < (m : Int) := by omega
    have hS2 : Hid (lightR R m = S) := by show _ = _; rw [← hS.out]; unfold lightB; rw [decide_eq_true hm]; rfl
    clear hS
    go_enter Tryd.func9, Tryd.ntmps9
    go_wp2
    go_loopw [3] (fun si wr => ∃ i : Nat, i ≤ m ∧ si = .int .i64 i ∧ Three wr w.heap.size (.int .i64 vars) (.int .i64 pubs) (.slice a m c) ∧ Below w.heap.size w wr ∧ Hid (lightR R i = true)) (fun si _ => m - (intOf si).toNat)
    case atStart => exact ⟨0, by omega, rfl, by (repeat' (first | (with_reducible first | assumption | exact Three.own (by with_reducible assumption) | refine Three.set ?_ _ _ _ | refine Own3.set ?_ _ _ _ | refine Three.drew ?_ | refine Three.drewN ?_ _ | refine Own3.drew ?_ | refine Own3.drewN ?_ _ | (refine Three.new ?_; simp only [szs]; done) | (refine Own3.new ?_; simp only [szs]; done) | refine Three.alloc ?_ _ | refine Own3.alloc ?_ _ | refine Three.far ?_ ?_ _ _ | refine Own3.far ?_ ?_ _ _ | refine Three.via (by with_reducible assumption) ?_ ?_ | refine Own3.via (by with_reducible assumption) ?_ ?_) | omega | (simp only [szs]; omega))), by (repeat' (first | (with_reducible first | exact Below.refl _ _ | assumption | refine Below.alloc ?_ ?_ _ | refine Below.drew ?_ | refine below_drewN ?_ _ | refine Below.setCell ?_ ?_ _ | refine below_via (by with_reducible assumption) ?_ ?_) | omega | (simp only [szs]; omega) | (simp only [szs] at *; omega))), rfl⟩
    case round =>
      obtain ⟨i, hi, rfl, t1, hB, hI⟩ := hrel
      have ⟨e1, e2, e3, e4, e5, e6, e7⟩ := t1
      by_cases hlt : i < m
      · have hlt' : (i : Int) < (m : Int) := by omega
        rcases hR'.out with hz | ⟨b, off, rfl, tr⟩
        · omega
        obtain ⟨d0, d1, d2⟩ := (tr.below hB).row hlt
        unfold Lst.val at d0 d1 d2
        have hdec : Hid (¬ ((R i 0).n ≤ 60 ∧ (R i 1).n ≤ 60 ∧ (R i 2).n ≤ 60) → S = false) := fun h => by rw [← hS2.out]; exact lightR_not h hlt
        have hstep : Hid ((R i 0).n ≤ 60 ∧ (R i 1).n ≤ 60 ∧ (R i 2).n ≤ 60 → lightR R (i + 1) = true) := fun h => by show (lightR R i && _) = true; rw [hI.out, decide_eq_true h]; rfl
        clear tr hI
        generalize (R i 0).n = n0 at *
        generalize (R i 1).n = n1 at *
        generalize (R i 2).n = n2 at *
        by_cases h0 : n0 ≤ 60
        · have h0' : ¬ (60 : Int) < (n0 : Int) := by omega
          by_cases h1 : n1 ≤ 60
          · have h1' : ¬ (60 : Int) < (n1 : Int) := by omega
            by_cases h2 : n2 ≤ 60
            · have h2' : ¬ (60 : Int) < (n2 : Int) := by omega
              have hI2 : Hid (lightR R (i + 1) = true) := hstep.out ⟨h0, h1, h2⟩
              clear hdec hstep
              go_wp2
              go_roundw
              case rel => exact ⟨i + 1, by omega, by go_num, by (repeat' (first | (with_reducible first | assumption | exact Three.own (by with_reducible assumption) | refine Three.set ?_ _ _ _ | refine Own3.set ?_ _ _ _ | refine Three.drew ?_ | refine Three.drewN ?_ _ | refine Own3.drew ?_ | refine Own3.drewN ?_ _ | (refine Three.new ?_; simp only [szs]; done) | (refine Own3.new ?_; simp only [szs]; done) | refine Three.alloc ?_ _ | refine Own3.alloc ?_ _ | refine Three.far ?_ ?_ _ _ | refine Own3.far ?_ ?_ _ _ | refine Three.via (by with_reducible assumption) ?_ ?_ | refine Own3.via (by with_reducible assumption) ?_ ?_) | omega | (simp only [szs]; omega))), by (repeat' (first | (with_reducible first | exact Below.refl _ _ | assumption | refine Below.alloc ?_ ?_ _ | refine Below.drew ?_ | refine below_drewN ?_ _ | refine Below.setCell ?_ ?_ _ | refine below_via (by with_reducible assumption) ?_ ?_) | omega | (simp only [szs]; omega) | (simp only [szs] at *; omega))), hI2⟩
              case measure => (simp [intOf]; omega)
            · have h2' : (60 : Int) < (n2 : Int) := by omega
              obtain rfl := hdec.out fun h => h2 h.2.2
              go_wp2
              go_ret
              exact ⟨rfl, by (repeat' (first | (with_reducible first | exact Below.refl _ _ | assumption | refine Below.alloc ?_ ?_ _ | refine Below.drew ?_ | refine below_drewN ?_ _ | refine Below.setCell ?_ ?_ _ | refine below_via (by with_reducible assumption) ?_ ?_) | omega | (simp only [szs]; omega) | (simp only [szs] at *; omega)))⟩
          · have h1' : (60 : Int) < (n1 : Int) := by omega
            obtain rfl := hdec.out fun h => h1 h.2.1
            go_wp2
            go_ret
            exact ⟨rfl, by (repeat' (first | (with_reducible first | exact Below.refl _ _ | assumption | refine Below.alloc ?_ ?_ _ | refine Below.drew ?_ | refine below_drewN ?_ _ | refine Below.setCell ?_ ?_ _ | refine below_via (by with_reducible assumption) ?_ ?_) | omega | (simp only [szs]; omega) | (simp only [szs] at *; omega)))⟩
        · have h0' : (60 : Int) < (n0 : Int) := by omega
          obtain rfl := hdec.out fun h => h0 h.1
          go_wp2
          go_ret
          exact ⟨rfl, by (repeat' (first | (with_reducible first | exact Below.refl _ _ | assumption | refine Below.alloc ?_ ?_ _ | refine Below.drew ?_ | refine below_drewN ?_ _ | refine Below.setCell ?_ ?_ _ | refine below_via (by with_reducible assumption) ?_ ?_) | omega | (simp only [szs]; omega) | (simp only [szs] at *; omega)))⟩
      · have hlt' : ¬ (i : Int) < (m : Int) := by omega
        obtain rfl : i = m := by omega
        obtain rfl : S = true := hS2.out.symm.trans hI.out
        go_wp2
        go_ret
        exact ⟨rfl, by (repeat' (first | (with_reducible first | exact Below.refl _ _ | assumption | refine Below.alloc ?_ ?_ _ | refine Below.drew ?_ | refine below_drewN ?_ _ | refine Below.setCell ?_ ?_ _ | refine below_via (by with_reducible assumption) ?_ ?_) | omega | (simp only [szs]; omega) | (simp only [szs] at *; omega)))⟩
  · have hm1 : (200 : Int) < (m : Int) := by omega
    obtain rfl : S = false := by rw [← hS.out]; unfold lightB; rw [decide_eq_false hm]; rfl
    go_enter Tryd.func9, Tryd.ntmps9
    go_wp2
    go_ret
    exact ⟨rfl, by (repeat' (first | (with_reducible first | exact Below.refl _ _ | assumption | refine Below.alloc ?_ ?_ _ | refine Below.drew ?_ | refine below_drewN ?_ _ | refine Below.setCell ?_ ?_ _ | refine below_via (by with_reducible assumption) ?_ ?_) | omega | (simp only [szs]; omega) | (simp only [szs] at *; omega)))⟩
end Go.Proofs.YtckjojmphdoghaaDoor
