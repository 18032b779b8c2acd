/- Plain facts of holds and tanks: what is a valid one. No conditions. -/
import Derived.Lib.SlicesCompact
import Derived.Test.YtpcmcicnciejpaaGreatS1
import Derived.Sort.OwnSortedInts
import Derived.Test.YtpcmcicnciejpaaGreatR01
import Derived.Deep.DeepCutAuto
import Derived.Deep.RegionHeld3
import Derived.Test.YtpcmcicnciejpaaGreatR02
import Derived.Test.YtpcmcicnciejpaaGreatR00
set_option linter.unusedVariables false
set_option linter.unusedSimpArgs false
set_option linter.constructorNameAsVariable false
namespace Go.Proofs.YtpcmcicnciejpaaGreat

section
open Go.Lib

end

section
open Go.RowKit Go.Sort

theorem OwnInts.cells {base : Nat} {w : World} {v : Value} {L : List Int} (ho : OwnInts base w v L) (hne : L ≠ []) :
    ∃ g cap, v = .slice (some ⟨g, 0, none⟩) L.length cap ∧ base ≤ g ∧ g < w.heap.size ∧ (∀ (j : Nat) (x : Int), L[j]? = some x → w.cell? ⟨g, 0 + j, none⟩ = some (.int .i64 x)) := by
  rcases ho.2 with ⟨_, h0⟩ | ⟨g, cap, cur, rfl, hbg, hg, hle, hm, hs, ht⟩
  · exact absurd (by simpa using h0) hne
  · refine ⟨g, cap, by simp, hbg, (Array.getElem?_eq_some_iff.1 hg).1, fun j x hx => ?_⟩
    have h1 : w.cell? ⟨g, 0 + j, none⟩ = cur[0 + j]? := cell_of_row w g (0 + j) cur _ (0, 0) hg
    rw [h1, Nat.zero_add]
    have hj : j < L.length := (List.getElem?_eq_some_iff.1 hx).1
    have h2 : (ints L)[j]? = some (.int .i64 x) := by rw [List.getElem?_map, hx]; rfl
    rw [← ht, List.getElem?_take_of_lt (by simp; omega)] at h2
    simpa using h2
end

section
open Go.RowKit

theorem at_to (b o n c : Nat) (ps : List P3) (x ra rb : Int) (w : World) (hn : n = ps.length) (h2 : 1 ≤ n) (hb : b < w.heap.size) (ht : tabOk ps = true) (hx : 0 ≤ x) (hx' : x ≤ 1000000) (hc : PtsAt w b o ps) (hr : atS ps x = (ra, rb)) :
    Calls Tryz.prog 142 #[tv (some ⟨b, o, none⟩) n c, .int .i64 x] w fun e w' => e = .returned (rv ra rb) ∧ Below w.heap.size w w' := by
  have h := at_memory b o n c ps x w hn h2 hb ht hx hx' hc
  rw [hr] at h; exact h
@[reducible] def addFn : Value := .func (.func 44) #[] #[]

def Joined (w : World) (Bw Bt Bu b o n c b' o' n' c' : Nat) (ps qs : List P3) : Prop :=
  Blk w Bw 103 #[addFn] ∧ Blk w Bt 38 #[.slice (some ⟨b, o, none⟩) n c] ∧ Blk w Bu 38 #[.slice (some ⟨b', o', none⟩) n' c'] ∧
  PtsAt w b o ps ∧ PtsAt w b' o' qs ∧ b < w.heap.size ∧ b' < w.heap.size
theorem Joined.below {w w' : World} {Bw Bt Bu b o n c b' o' n' c' : Nat} {ps qs : List P3} (h : Joined w Bw Bt Bu b o n c b' o' n' c' ps qs) (hB : Below w.heap.size w w') : Joined w' Bw Bt Bu b o n c b' o' n' c' ps qs := by
  obtain ⟨h1, h2, h3, h4, h5, h6, h7⟩ := h
  have := hB.size
  exact ⟨h1.below hB h1.lt, h2.below hB h2.lt, h3.below hB h3.lt, h4.below hB h6, h5.below hB h7, by omega, by omega⟩
end

section
open Go.RowKit

theorem below_alloc1 (w : World) (o : Obj) : Below w.heap.size w (w.alloc o) := (Below.refl _ _).alloc (Nat.le_refl _) _
theorem blkOn {w w1 : World} {g : Nat} {t : TypeId} {cs : Array Value} (h : Blk w g t cs) (hb : Below w.heap.size w w1) : Blk w1 g t cs := h.below hb h.lt

theorem OwnInts.below {base : Nat} {X Y : World} {v : Value} {L : List Int} (ho : OwnInts base X v L) (hb : Below X.heap.size X Y) : OwnInts base Y v L :=
  World.ownsRow.kept (show X.ownsRow base 3 1 v _ _ from ho) (below_grownNone hb) (by
    rcases (show X.ownsRow base 3 1 v _ _ from ho).2 with ⟨h1, _⟩ | ⟨g3, cap3, cur3, h1, _⟩
    · left; rw [h1]; rfl
    · right; rw [h1]; simp [Value.ownBlock])
end

section
open Go.RowKit
end

section
open Go.RowKit

theorem places_ok {ps : List P3} {a b : Int} (h : placesS ps a b = 0) : tabOk ps = true ∧ a ≤ b ∧ firstX ps ≤ a ∧ b ≤ lastX ps := by
  unfold placesS at h
  by_cases ht : tabOk ps = true
  · rw [if_pos ht] at h
    by_cases hi : inB a b (firstX ps) (lastX ps) = true
    · simp only [inB, decide_eq_true_eq] at hi
      exact ⟨ht, hi.1, hi.2.1, hi.2.2⟩
    · rw [if_neg hi] at h; omega
  · rw [if_neg ht] at h; omega
def AtS (ps : List P3) (x : Int) : Int × Int × Int := if placesS ps x x = 0 then ((atS ps x).1, (atS ps x).2, 0) else (0, 0, placesS ps x x)
theorem Pts.block {w : World} {A : Option Addr} {ps : List P3} (h : Pts w A ps) (hl : 1 ≤ ps.length) : ∃ b o, A = some ⟨b, o, none⟩ ∧ b < w.heap.size ∧ PtsAt w b o ps := by
  rcases h with h | ⟨b, o, h1, h2, h3⟩
  · rw [h] at hl; simp at hl
  · exact ⟨b, o, h1, h2, h3⟩

set_option maxRecDepth 100000 in
set_option maxHeartbeats 1000000 in
theorem at_all (A : Option Addr) (n c : Nat) (ps : List P3) (x : Int) (w : World) (hn : n = ps.length) (hm : n ≤ maxLen) (hp : Pts w A ps) :
  Calls Tryz.prog 117 #[tv A n c, .int .i64 x] w fun e w' => e = .returned (rt (AtS ps x)) ∧ Below w.heap.size w w' := by
 have hE : Below w.heap.size w ((w.alloc (.cells #[.slice A n c] 38)).alloc (.cells #[.int .i64 0, .int .i64 0] 35)) := below_a2 (Below.refl _ _)
 have bT := (Blk.new w 38 #[.slice A n c]).alloc (.cells #[.int .i64 0, .int .i64 0] 35)
 have bR := Blk.new (w.alloc (.cells #[.slice A n c] 38)) 35 #[.int .i64 0, .int .i64 0]
 simp only [World.size_alloc] at bR
 have HP := Lib.hid (hp.below hE); have HN := Lib.hid hn; clear hn
 obtain ⟨E, hEr⟩ : ∃ E, placesS ps x x = E := ⟨_, rfl⟩
 have HC : Hid (∀ W, Pts W A ps → Calls Tryz.prog 110 #[tv A n c, .int .i64 x, .int .i64 x] W fun e w' => e = .returned (.int .i64 E) ∧ Below W.heap.size W w') :=
  Lib.hid fun W hW => checkPlaces_to A n c ps x x E W HN.out hm hW hEr
 have HE := Lib.hid hE; have HT := Lib.hid bT; have HR := Lib.hid bR
 clear hE bT bR
 by_cases h0 : E = 0
 ·subst h0
  obtain ⟨ht, _, hx1, hx2⟩ := places_ok hEr
  obtain ⟨pl1, pl2⟩ := places_in ht
  have hl := (tabOk_len ht).1
  obtain ⟨b, o, rfl, hb, hc⟩ := hp.block hl
  obtain ⟨⟨ra, rb⟩, hr⟩ : ∃ r, atS ps x = r := ⟨_, rfl⟩
  have HA : Hid (∀ W, Below w.heap.size w W → Calls Tryz.prog 142 #[tv (some ⟨b, o, none⟩) n c, .int .i64 x] W fun e w' => e = .returned (rv ra rb) ∧ Below W.heap.size W w') := Lib.hid fun W hW =>
   at_to b o n c ps x ra rb W HN.out (by rw [HN.out]; exact hl) (Nat.lt_of_lt_of_le hb hW.size) ht (by omega) (by omega) (hc.below hW hb) hr
  have HV := Lib.hid (show AtS ps x = (ra, rb, 0) by unfold AtS; rw [if_pos hEr, hr])
  clear hEr hp hx1 hx2 hc hr ht
  go_enter Tryz.func117, Tryz.ntmps117
  go_wp2_with fail
  refine (HC.out _ HP.out).mono ?_
  rintro e w1 ⟨rfl, hb1⟩
  have HT1 := Lib.hid (blkOn HT.out hb1); have HR1 := Lib.hid (blkOn HR.out hb1); have HE1 := Lib.hid (below_then HE.out hb1)
  have t0 := HT1.out.cell 0
  simp at t0
  clear hb1
  go_wp2_with fail
  refine (HA.out _ HE1.out).mono ?_
  rintro e w2 ⟨rfl, hb2⟩
  have bR2 := blkOn HR1.out hb2
  have r0 := bR2.cell 0
  have r1 := bR2.cell 1
  have f0 := bR2.frozen 0
  have f1 := bR2.frozen 1
  simp at r0 r1
  have HE2 := Lib.hid (below_then HE1.out hb2)
  clear hb2 bR2 t0
  go_wp2
  refine bodyPost_ret (v := rt (ra, rb, 0)) (by simp [results, Tryz.results117, go_sem, r0, r1]) rfl ⟨by rw [HV.out], ?_⟩
  exact (HE2.out.setCell (p := ⟨w.heap.size + 1, 0, none⟩) (by show w.heap.size ≤ w.heap.size + 1; omega) _).setCell (p := ⟨w.heap.size + 1, 1, none⟩) (by show w.heap.size ≤ w.heap.size + 1; omega) _
 ·have HV := Lib.hid (show AtS ps x = (0, 0, E) by unfold AtS; rw [hEr, if_neg h0])
  have t1 : (E == 0) = false := beq_eq_false_iff_ne.2 h0
  clear hEr hp h0
  go_enter Tryz.func117, Tryz.ntmps117
  go_wp2_with fail
  refine (HC.out _ HP.out).mono ?_
  rintro e w1 ⟨rfl, hb1⟩
  have bR1 := blkOn HR.out hb1
  have r0 := bR1.cell 0
  have r1 := bR1.cell 1
  have f0 := bR1.frozen 0
  have f1 := bR1.frozen 1
  simp at r0 r1
  have HE1 := Lib.hid (below_then HE.out hb1)
  clear hb1 bR1
  go_wp2
  refine bodyPost_ret (v := rt (0, 0, E)) (by simp [results, Tryz.results117, go_sem, r0, r1]) rfl ⟨by rw [HV.out], ?_⟩
  exact (HE1.out.setCell (p := ⟨w.heap.size + 1, 0, none⟩) (by show w.heap.size ≤ w.heap.size + 1; omega) _).setCell (p := ⟨w.heap.size + 1, 1, none⟩) (by show w.heap.size ≤ w.heap.size + 1; omega) _
end

section
open Go.RowKit

end

section
open Go.RowKit

theorem floor_ge (u D d : Int) (h0 : 0 ≤ u) (h1 : u ≤ D) (hD : 0 < D) : min d 0 ≤ u * d / D := by
  rw [Int.le_ediv_iff_mul_le hD]
  by_cases hd : 0 ≤ d
  · rw [Int.min_eq_right hd, Int.zero_mul]; exact Int.mul_nonneg h0 hd
  · rw [Int.min_eq_left (by omega)]
    have := Int.mul_le_mul_of_nonneg_left h1 (show 0 ≤ -d by omega)
    have e1 : -d * u = -(u * d) := by rw [Int.neg_mul, Int.mul_comm]
    have e2 : -d * D = -(d * D) := by rw [Int.neg_mul]
    omega
theorem floors_le (u D a b e : Int) (h0 : 0 ≤ u) (h1 : u ≤ D) (hD : 0 < D) (he : 0 ≤ e) (hab : a + b ≤ e) : u * a / D + u * b / D ≤ e := by
  have ha := Int.ediv_mul_le (u * a) (show D ≠ 0 by omega)
  have hb := Int.ediv_mul_le (u * b) (show D ≠ 0 by omega)
  have h2 := Int.mul_le_mul_of_nonneg_left hab h0
  have h3 := Int.mul_le_mul_of_nonneg_right h1 he
  rw [Int.mul_add] at h2
  refine Int.le_of_mul_le_mul_right (a := D) ?_ hD
  rw [Int.add_mul, Int.mul_comm e D]
  omega
theorem piece_in (p q : P3) (x : Int) (hp : Okp p) (hq : Okp q) (hpr : p.2.1 ≤ p.2.2) (hqr : q.2.1 ≤ q.2.2) (h1 : p.1 ≤ x) (h2 : x ≤ q.1) :
    inB (pAt p q x).1 (pAt p q x).2 (-1000000000) 1000000000 = true := by
  obtain ⟨_, _, p1, p2, p3, p4⟩ := hp
  obtain ⟨_, _, q1, q2, q3, q4⟩ := hq
  have hD : 0 < max (q.1 - p.1) 1 := by omega
  have hu : x - p.1 ≤ max (q.1 - p.1) 1 := by omega
  have A := floor_ge (x - p.1) _ (q.2.1 - p.2.1) (by omega) hu hD
  have B := floor_ge (x - p.1) _ (p.2.2 - q.2.2) (by omega) hu hD
  have C := floors_le (x - p.1) _ (q.2.1 - p.2.1) (p.2.2 - q.2.2) (p.2.2 - p.2.1) (by omega) hu hD (by omega) (by omega)
  have m1 : -1000000000 ≤ p.2.1 + min (q.2.1 - p.2.1) 0 := by omega
  have m2 : p.2.2 - min (p.2.2 - q.2.2) 0 ≤ 1000000000 := by omega
  refine inB_yes ?_ ?_ ?_ <;> simp only [pAt, riseS] <;> omega
end

section
open Go.RowKit

theorem pts_ordered : ∀ (ps : List P3) (last : Int), ptsOk last ps = true → ∀ p ∈ ps, p.2.1 ≤ p.2.2
  | [], _, _, _, h => by cases h
  | q :: ps, last, h, p, hp => by
    simp only [ptsOk, Bool.and_eq_true, ptOk, inB, decide_eq_true_eq] at h
    rcases List.mem_cons.1 hp with rfl | hp
    · omega
    · exact pts_ordered ps _ h.2 p hp
theorem atS_in {ps : List P3} {x : Int} (ht : tabOk ps = true) (h1 : firstX ps ≤ x) (h2 : x ≤ lastX ps) : inB (atS ps x).1 (atS ps x).2 (-1000000000) 1000000000 = true := by
  have hl := (tabOk_len ht).1
  have hok := okp_of ps (-1) (tabOk_pts ht) (by omega)
  have hor := pts_ordered ps (-1) (tabOk_pts ht)
  rcases Nat.lt_or_ge ps.length 2 with hc | hc
  · obtain ⟨p, rfl⟩ : ∃ p, ps = [p] := List.length_eq_one_iff.1 (by omega)
    have f1 : p.1 ≤ x := h1
    have f2 : x ≤ p.1 := h2
    have e : atS [p] x = pAt p p x := atS_piece (i := 0) (pq := (p, p)) rfl f2 (fun j hj => by omega)
    rw [e]
    exact piece_in p p x (hok p (by simp)).1 (hok p (by simp)).1 (hor p (by simp)) (hor p (by simp)) f1 f2
  · cases hf : (pcs ps).find? (fun pq => decide (x ≤ pq.2.1)) with
    | none =>
      exfalso
      rw [List.find?_eq_none] at hf
      have e1 : ps[ps.length - 2]? = some ps[ps.length - 2] := List.getElem?_eq_getElem (by omega)
      have e2 : ps[ps.length - 2 + 1]? = some ps[ps.length - 2 + 1] := List.getElem?_eq_getElem (by omega)
      have hm := hf _ (List.mem_of_getElem? (pcs_at hc e1 e2))
      simp only [decide_eq_true_eq] at hm
      have : lastX ps = (ps[ps.length - 2 + 1]'(by omega)).1 := by
        unfold lastX
        rw [List.getLast?_eq_getElem?, show ps.length - 1 = ps.length - 2 + 1 by omega, e2]; rfl
      omega
    | some pq =>
      have e : atS ps x = pAt pq.1 pq.2 x := by unfold atS; rw [hf]
      obtain ⟨hx, i, li, hi, hb⟩ := List.find?_eq_some_iff_getElem.1 hf
      have hx' : x ≤ pq.2.1 := by simpa using hx
      have hi' : (pcs ps)[i]? = some pq := by rw [List.getElem?_eq_getElem li, hi]
      have hz := hi'
      rw [pcs_two hc, List.getElem?_zip_eq_some] at hz
      have m1 := List.mem_of_getElem? hz.1
      have m2 := List.mem_of_getElem? (pcs_before hc hi')
      have hp1 : pq.1.1 ≤ x := by
        cases i with
        | zero =>
          have hz0 := hz.1
          have : firstX ps = pq.1.1 := by unfold firstX; rw [List.head?_eq_getElem?, hz0]; rfl
          omega
        | succ k =>
          have lk : k < (pcs ps).length := by omega
          have h0 := hb k (by omega)
          have hr := pcs_before hc (List.getElem?_eq_getElem lk)
          rw [hz.1] at hr
          injection hr with hr
          simp only [Bool.not_eq_true', decide_eq_false_iff_not] at h0
          rw [hr]; omega
      rw [e]
      exact piece_in pq.1 pq.2 x (hok _ m1).1 (hok _ m2).1 (hor _ m1) (hor _ m2) hp1 hx'
end

section
open Go.RowKit

theorem rising_last {ps : List P3} (ht : tabOk ps = true) {p : P3} (hp : p ∈ ps) : p.1 ≤ lastX ps := by
  obtain ⟨k, hk⟩ := List.mem_iff_getElem?.1 hp
  have hl := (List.getElem?_eq_some_iff.1 hk).1
  have e : ps[ps.length - 1]? = some (ps[ps.length - 1]'(by omega)) := List.getElem?_eq_getElem (by omega)
  have := rising_le ht hk e (by omega)
  have f : lastX ps = (ps[ps.length - 1]'(by omega)).1 := by unfold lastX; rw [List.getLast?_eq_getElem?, e]; rfl
  omega
theorem atS_point {ps : List P3} (ht : tabOk ps = true) {p : P3} (hp : p ∈ ps) : atS ps p.1 = (p.2.1, p.2.2) := by
  obtain ⟨k, hk⟩ := List.mem_iff_getElem?.1 hp
  exact (ref_at ht hk (Int.le_refl _) (rising_last ht hp) (fun q hq => rising_at ht hk hq (by omega))).1 rfl

theorem OwnPts.alloc {base : Nat} {w : World} {v : Value} {l : List P3} (h : OwnPts base w v l) (o : Obj) : OwnPts base (w.alloc o) v l := World.ownsRow.alloc h o
theorem OwnPts.below {base : Nat} {X Y : World} {v : Value} {L : List P3} (ho : OwnPts base X v L) (hb : Below X.heap.size X Y) : OwnPts base Y v L := ho.grown (below_grownNone hb) (fun _ e => by cases e)
end

section
open Go.RowKit
attribute [local go_sem ↓] neqPoint
end

section
open Go.RowKit

def Boxes (W : World) (L : List (Nat × TypeId × Array Value)) : Prop := ∀ p ∈ L, Blk W p.1 p.2.1 p.2.2
theorem Boxes.on {W W' : World} {L : List (Nat × TypeId × Array Value)} (h : Boxes W L) (hb : Below W.heap.size W W') : Boxes W' L := fun p hp => blkOn (h p hp) hb
theorem Boxes.new {W : World} {L : List (Nat × TypeId × Array Value)} (h : Boxes W L) (t : TypeId) (cs : Array Value) : Boxes (W.alloc (.cells cs t)) ((W.heap.size, t, cs) :: L) := fun p hp => by
  rcases List.mem_cons.1 hp with rfl | hp
  · exact Blk.new W t cs
  · exact (h p hp).alloc _
theorem rt_to {P : Program} {f : FuncId} {args : Array Value} {w : World} {r : Int × Int × Int} {x y z : Int} (h : Calls P f args w fun e w' => e = .returned (rt r) ∧ Below w.heap.size w w') (hr : r = (x, y, z)) :
    Calls P f args w fun e w' => e = .returned (.tuple #[rv x y, .int .i64 z]) ∧ Below w.heap.size w w' := by
  subst hr; exact h
theorem int_to {P : Program} {f : FuncId} {args : Array Value} {w : World} {r x : Int} (h : Calls P f args w fun e w' => e = .returned (.int .i64 r) ∧ Below w.heap.size w w') (hr : r = x) :
    Calls P f args w fun e w' => e = .returned (.int .i64 x) ∧ Below w.heap.size w w' := by
  subst hr; exact h
theorem bool_to {P : Program} {f : FuncId} {args : Array Value} {w : World} {r x : Bool} (h : Calls P f args w fun e w' => e = .returned (.bool r) ∧ Below w.heap.size w w') (hr : r = x) :
    Calls P f args w fun e w' => e = .returned (.bool x) ∧ Below w.heap.size w w' := by
  subst hr; exact h
def IntsP (w : World) (A : Option Addr) (cs : List Int) : Prop := cs = [] ∨ ∃ b o, A = some ⟨b, o, none⟩ ∧ b < w.heap.size ∧ IntsMem w b o cs
theorem IntsMem.below {w w' : World} {b o : Nat} {L : List Int} (h : IntsMem w b o L) (hB : Below w.heap.size w w') (hb : b < w.heap.size) : IntsMem w' b o L := fun k x hx => ((bcell hB).1 b _ hb).trans (h k x hx)
theorem IntsP.below {w w' : World} {A : Option Addr} {L : List Int} (h : IntsP w A L) (hB : Below w.heap.size w w') : IntsP w' A L := by
  rcases h with h | ⟨b, o, h1, h2, h3⟩
  · exact .inl h
  · exact .inr ⟨b, o, h1, Nat.lt_of_lt_of_le h2 hB.size, h3.below hB h2⟩
end

section
open Go.RowKit

structure HoldD where
  id : Int
  al : Int
  ah : Int
  vol : List P3
  mom : List P3
  hei : List P3
  t0 : Int
  t1 : Int
  u0 : Int
  u1 : Int
  v0 : Int
  v1 : Int
  h0 : Int
  h1 : Int
structure HoldM where
  A : Option Addr
  n : Nat
  c : Nat
  B : Option Addr
  m : Nat
  d : Nat
  C : Option Addr
  l : Nat
  e : Nat
abbrev holdCells (h : HoldD) (m : HoldM) : Array Value := #[.int .i64 h.id, .int .i64 h.al, .int .i64 h.ah, .slice m.A m.n m.c, .slice m.B m.m m.d, .slice m.C m.l m.e, .int .i64 h.t0, .int .i64 h.t1, .int .i64 h.u0, .int .i64 h.u1, .int .i64 h.v0, .int .i64 h.v1, .int .i64 h.h0, .int .i64 h.h1]
abbrev holdV (h : HoldD) (m : HoldM) : Value := .agg (holdCells h m)
def TabIn (w : World) (A : Option Addr) (n : Nat) (ps : List P3) : Prop := n = ps.length ∧ n ≤ maxLen ∧ Pts w A ps
theorem TabIn.below {w w' : World} {A : Option Addr} {n : Nat} {ps : List P3} (h : TabIn w A n ps) (hb : Below w.heap.size w w') : TabIn w' A n ps := ⟨h.1, h.2.1, h.2.2.below hb⟩
def HoldIn (w : World) (h : HoldD) (m : HoldM) : Prop := TabIn w m.A m.n h.vol ∧ TabIn w m.B m.m h.mom ∧ TabIn w m.C m.l h.hei
theorem HoldIn.below {w w' : World} {h : HoldD} {m : HoldM} (i : HoldIn w h m) (hb : Below w.heap.size w w') : HoldIn w' h m := ⟨i.1.below hb, i.2.1.below hb, i.2.2.below hb⟩
def measuresS (ps : List P3) : Bool := (tabOk ps && decide (2 ≤ ps.length)) && ps.all fun p => decide (0 ≤ p.2.1)
def alongS (ps qs : List P3) : Bool := decide (firstX ps = firstX qs) && decide (lastX ps = lastX qs)
def fallsS : List P3 → Bool
  | p :: q :: r => (decide (q.2.1 ≤ p.2.1) && decide (q.2.2 ≤ p.2.2)) && fallsS (q :: r)
  | _ => true
def risesS : List P3 → Bool
  | p :: q :: r => (decide (p.2.1 ≤ q.2.1) && decide (p.2.2 ≤ q.2.2)) && risesS (q :: r)
  | _ => true
def amountS (a b : Int) : Bool := inB a b 0 1000000000
theorem boxes1' (w : World) (t1 : TypeId) (c1 : Array Value) : Boxes (w.alloc (.cells c1 t1)) [(w.heap.size, t1, c1)] := fun p hp => by
  have := List.mem_singleton.1 hp; subst this; exact Blk.new w _ _
theorem boxes2' (w : World) (t1 t2 : TypeId) (c1 c2 : Array Value) : Boxes ((w.alloc (.cells c1 t1)).alloc (.cells c2 t2)) [(w.heap.size + 1, t2, c2), (w.heap.size, t1, c1)] := by
  have h2 := (boxes1' w t1 c1).new t2 c2
  simp only [World.size_alloc] at h2
  exact h2
theorem boxes3' (w : World) (t1 t2 t3 : TypeId) (c1 c2 c3 : Array Value) : Boxes (((w.alloc (.cells c1 t1)).alloc (.cells c2 t2)).alloc (.cells c3 t3)) [(w.heap.size + 1 + 1, t3, c3), (w.heap.size + 1, t2, c2), (w.heap.size, t1, c1)] := by
  have h2 := (boxes2' w t1 t2 c1 c2).new t3 c3
  simp only [World.size_alloc] at h2
  exact h2
end

end Go.Proofs.YtpcmcicnciejpaaGreat
