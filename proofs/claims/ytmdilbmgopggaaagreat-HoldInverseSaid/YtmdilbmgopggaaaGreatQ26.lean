/- Plain laws of places, ranges and runs of a table: Over has what lies between; the binary search finds where a question turns; runs have just the places where it is so; a curve's value lies within. Their conditions: the table is valid. -/
import Derived.Test.YtmdilbmgopggaaaGreatQ25
import Derived.WalkSmall
import Derived.RegionTactic
import Derived.BigRegion
import Derived.Test.YtmdilbmgopggaaaGreatQ07
import Derived.Test.YtmdilbmgopggaaaGreatQ10
import Derived.Test.YtmdilbmgopggaaaGreatQ15
import Derived.Test.YtmdilbmgopggaaaGreatQ16
import Derived.Test.YtmdilbmgopggaaaGreatQ14
import Derived.Test.YtmdilbmgopggaaaGreatQ12
import Derived.StillTailTactics
import Derived.BigQuiet
import Derived.Deep.RegionHeld3
import Derived.Test.YtmdilbmgopggaaaGreatQ13
set_option linter.unusedVariables false
set_option linter.unusedSimpArgs false
set_option linter.constructorNameAsVariable false
namespace Go.Proofs.YtmdilbmgopggaaaGreat

section
open Go.RowKit Go.Shelf

/-- A row of runs of the call's own, given back with a word beside it. -/
def GivesRunsOk (w : World) (L : List (Int × Int)) (e : Ending) (w' : World) : Prop := ∃ v, e = .returned (.tuple #[v, .int .i64 0]) ∧ OwnRuns w.heap.size w' v L ∧ Below w.heap.size w w'

set_option maxRecDepth 100000 in
set_option maxHeartbeats 2000000 in
theorem where_good (b0 o n c : Nat) (ps : List P3) (xs : List Pr) (lo hi : Int) (w : World) (hn : n = ps.length) (h2 : 1 ≤ n) (hb : b0 < w.heap.size) (ht : tabOk ps = true) (hr : vR lo hi = true) (hxs : xs.map (·.1) = pcs ps) (hc : PtsAt w b0 o ps) :
    Calls Tryz.prog 129 #[tv (some ⟨b0, o, none⟩) n c, rv lo hi] w (GivesRunsOk w (runsF (whereS lo hi) xs)) := by
  have h40 := (tabOk_len ht).2
  have hml : n ≤ maxLen := by unfold maxLen; omega
  have HN := Lib.hid hn; clear hn
  have HT := Lib.hid ht; clear ht
  have HR := Lib.hid hr; clear hr
  have HX := Lib.hid hxs; clear hxs
  have hB0 : Below w.heap.size w ((w.alloc (.cells #[.slice (some ⟨b0, o, none⟩) n c] 26)).alloc (.cells #[.int .i64 lo, .int .i64 hi] 23)) := below_a2 (Below.refl _ _)
  have HC := Lib.hid (hc.below hB0 hb); clear hc
  have hb0 : b0 < ((w.alloc (.cells #[.slice (some ⟨b0, o, none⟩) n c] 26)).alloc (.cells #[.int .i64 lo, .int .i64 hi] 23)).heap.size := by simp; omega
  have bT := (Blk.new w 26 #[.slice (some ⟨b0, o, none⟩) n c]).alloc (.cells #[.int .i64 lo, .int .i64 hi] 23)
  have bR := Blk.new (w.alloc (.cells #[.slice (some ⟨b0, o, none⟩) n c] 26)) 23 #[.int .i64 lo, .int .i64 hi]
  simp only [World.size_alloc] at bR
  have HB := Lib.hid hb0; have HBT := Lib.hid bT; have HBR := Lib.hid bR; have HB0 := Lib.hid hB0
  clear hb0 bT bR hB0
  go_enter Tryz.func129, Tryz.ntmps129
  go_wp2_with fail
  refine (checkTable_to _ n c ps _ _ _ HN.out hml (HC.out.pts HB.out) HT.out rfl).mono ?_
  rintro e w1 ⟨rfl, hb1⟩
  have bT1 := HBT.out.below hb1 HBT.out.lt
  have bR1 := HBR.out.below hb1 HBR.out.lt
  have P1 := HC.out.below hb1 HB.out
  have hB1 := below_then HB0.out hb1
  have hz1 : w.heap.size + 1 < w1.heap.size := by have := hb1.size; simp at this; omega
  have r0 := bR1.cell 0
  have r1 := bR1.cell 1
  simp at r0 r1
  have HBT1 := Lib.hid bT1; have HBR1 := Lib.hid bR1; have HP1 := Lib.hid P1; have HB1 := Lib.hid hB1
  clear bT1 bR1 P1 hB1 hb1
  have hza : w.heap.size < w1.heap.size := by omega
  go_wp2_with fail
  refine (checkRange_ok lo hi _ HR.out).mono ?_
  rintro e w2 ⟨rfl, hb2⟩
  have bT2 := HBT1.out.below hb2 HBT1.out.lt
  have bR2 := HBR1.out.below hb2 HBR1.out.lt
  have P2 := HP1.out.below hb2 (by omega)
  have hB2 := below_then HB1.out hb2
  have hz2 : w.heap.size + 1 < w2.heap.size := by have := hb2.size; omega
  have t0 := bT2.cell 0
  simp at t0
  have hzc : w.heap.size < w2.heap.size := by omega
  have HBR2 := Lib.hid bR2; have HP2 := Lib.hid P2; have HB2 := Lib.hid hB2
  clear bT2 bR2 P2 hB2 hb2 r0 r1
  go_wp2_with fail
  refine (collect_where b0 o n c (w.heap.size + 1) ps xs lo hi w2 HN.out h2 (by omega) HT.out HX.out HP2.out HBR2.out).mono ?_
  rintro e w3 ⟨v, rfl, ho, hb3⟩
  have hB3 := below_then HB2.out hb3
  have HO := Lib.hid ho; have HB3 := Lib.hid hB3
  clear ho hB3 hb3
  go_wp2
  refine bodyPost_ret (v := .tuple #[v, .int .i64 0]) (by simp [results, Tryz.results129, go_sem]) rfl ⟨v, rfl, HO.out.mono (by omega), HB3.out⟩
end

section
/-- Two fractions of one value have one floor. -/
theorem floor_same {A d N D : Int} (hd : 1 ≤ d) (hD : 1 ≤ D) (h : A * D = N * d) : A / d = N / D := by
  rw [← Int.mul_ediv_mul_of_pos_left A d (show 0 < D by omega), h, Int.mul_comm d D, Int.mul_ediv_mul_of_pos_left _ _ (by omega)]

/-- What a sum holds at the end. -/
def Summed (s : Int × Int × Int) (N D : Int) : Prop := 1 ≤ D ∧ 1 ≤ s.2.2 ∧ s.2.2 ≤ 1000000000000 ∧ 0 ≤ s.2.1 ∧ s.2.1 ≤ 2000000000000 ∧ -3000000000000000 ≤ s.1 ∧ s.1 ≤ 3000000000000000 ∧ (s.1 * s.2.2 + s.2.1) * D = N * s.2.2
theorem Summed.floor {s : Int × Int × Int} {N D : Int} (h : Summed s N D) : s.1 + s.2.1 / s.2.2 = N / D ∧ 0 ≤ s.2.1 / s.2.2 ∧ s.2.1 / s.2.2 ≤ 2000000000000 := by
  obtain ⟨hD, hd, hdm, hn, hn2, w1, w2, e⟩ := h
  refine ⟨?_, Int.ediv_nonneg hn (by omega), ?_⟩
  · rw [← floor_same hd hD e, Int.add_comm (s.1 * s.2.2), Int.add_mul_ediv_right _ _ (by omega), Int.add_comm]
  · have := Int.ediv_le_self s.2.2 hn
    omega
end

section
open Go.RowKit

abbrev xsOf (ps : List P3) : List Int := ps.map (·.1)
end

section
def Summed4 (s : Int × Int × Int × Int) (N D : Int) : Prop := 1 ≤ D ∧ 1 ≤ s.2.2.2 ∧ 0 ≤ s.2.2.1 ∧ s.2.2.1 < s.2.2.2 ∧ -3000000000000000 ≤ s.1 ∧ s.1 ≤ 3000000000000000 ∧ -3000000000000000 ≤ s.2.1 ∧ s.2.1 ≤ 3000000000000000 ∧ ((s.1 + s.2.1) * s.2.2.2 + s.2.2.1) * D = N * s.2.2.2
theorem Summed4.floor {s : Int × Int × Int × Int} {N D : Int} (h : Summed4 s N D) : s.1 + s.2.1 = N / D ∧ (decide (0 < s.2.2.1) = decide (0 < N % D)) := by
  obtain ⟨hD, hd, hn, hnd, v1, v2, w1, w2, e⟩ := h
  have hz : s.2.2.1 / s.2.2.2 = 0 := Int.ediv_eq_zero_of_lt hn hnd
  have e1 : s.1 + s.2.1 = N / D := by
    rw [← floor_same hd hD e, Int.add_comm ((s.1 + s.2.1) * s.2.2.2), Int.add_mul_ediv_right _ _ (by omega), hz, Int.zero_add]
  refine ⟨e1, ?_⟩
  have e2 := Int.mul_ediv_add_emod N D
  rw [← e1] at e2
  generalize s.1 + s.2.1 = T at *
  have e3 : s.2.2.1 * D = N % D * s.2.2.2 := by
    have : N % D = N - D * T := by omega
    rw [this]; grind
  have hr := Int.emod_nonneg N (show D ≠ 0 by omega)
  by_cases c : 0 < s.2.2.1
  · rw [decide_eq_true c]
    have : 0 < s.2.2.1 * D := Int.mul_pos c (by omega)
    have : N % D ≠ 0 := fun z => by rw [z, Int.zero_mul] at e3; omega
    rw [decide_eq_true (by omega)]
  · rw [decide_eq_false c]
    have z : s.2.2.1 = 0 := by omega
    rw [z, Int.zero_mul] at e3
    have : N % D = 0 := by
      rcases Int.mul_eq_zero.1 e3.symm with k | k <;> omega
    rw [decide_eq_false (by omega)]
end

section
open Go.RowKit

/-- place -/
def placeS (ps : List P3) (n : Int) : Int := firstX ps + n % (lastX ps - firstX ps + 1)
theorem first_le_last {ps : List P3} (ht : tabOk ps = true) : firstX ps ≤ lastX ps := by
  have hl := (tabOk_len ht).1
  have e0 : ps[0]? = some (ps[0]'(by omega)) := List.getElem?_eq_getElem (by omega)
  have e1 : ps[ps.length - 1]? = some (ps[ps.length - 1]'(by omega)) := List.getElem?_eq_getElem (by omega)
  have := rising_le ht e0 e1 (by omega)
  have f0 : firstX ps = (ps[0]'(by omega)).1 := by unfold firstX; rw [List.head?_eq_getElem?, e0]; rfl
  have f1 : lastX ps = (ps[ps.length - 1]'(by omega)).1 := by unfold lastX; rw [List.getLast?_eq_getElem?, e1]; rfl
  omega
end

section
open Go.RowKit

/-- numbers at the points that lie within the table -/
def InTab (ps : List P3) (ys : List Int) : Prop := ys.length = ps.length ∧ ∀ (k : Nat) (p : P3) (y : Int), ps[k]? = some p → ys[k]? = some y → p.2.1 ≤ y ∧ y ≤ p.2.2
theorem InTab.tail {p : P3} {ps : List P3} {y : Int} {ys : List Int} (h : InTab (p :: ps) (y :: ys)) : (p.2.1 ≤ y ∧ y ≤ p.2.2) ∧ InTab ps ys :=
  ⟨h.2 0 p y rfl rfl, by have := h.1; simpa using this, fun k q z hq hz => h.2 (k + 1) q z (by simpa using hq) (by simpa using hz)⟩
/-- a table that lies within another one, with the same places -/
def Within3 (qs ps : List P3) : Prop := qs.length = ps.length ∧ ∀ (k : Nat) (q p : P3), qs[k]? = some q → ps[k]? = some p → q.1 = p.1 ∧ p.2.1 ≤ q.2.1 ∧ q.2.1 ≤ q.2.2 ∧ q.2.2 ≤ p.2.2
theorem Within3.map_fst {qs ps : List P3} (h : Within3 qs ps) : xsOf qs = xsOf ps := by
  apply List.ext_getElem?
  intro k
  rw [List.getElem?_map, List.getElem?_map]
  rcases Nat.lt_or_ge k qs.length with c | c
  · have e1 : qs[k]? = some (qs[k]'c) := List.getElem?_eq_getElem c
    have e2 : ps[k]? = some (ps[k]'(by have := h.1; omega)) := List.getElem?_eq_getElem _
    rw [e1, e2]
    simp only [Option.map_some]
    rw [(h.2 k _ _ e1 e2).1]
  · rw [List.getElem?_eq_none c, List.getElem?_eq_none (by have := h.1; omega)]
theorem firstX_map (ps : List P3) : firstX ps = ((xsOf ps).head?).getD 0 := by
  unfold firstX; rw [List.head?_map]
theorem lastX_map (ps : List P3) : lastX ps = ((xsOf ps).getLast?).getD 0 := by
  unfold lastX; rw [List.getLast?_map]
theorem Within3.first {qs ps : List P3} (h : Within3 qs ps) : firstX qs = firstX ps := by rw [firstX_map, firstX_map, h.map_fst]
theorem Within3.last {qs ps : List P3} (h : Within3 qs ps) : lastX qs = lastX ps := by rw [lastX_map, lastX_map, h.map_fst]
theorem Within3.place {qs ps : List P3} (h : Within3 qs ps) (z : Int) : placeS qs z = placeS ps z := by unfold placeS; rw [h.first, h.last]
theorem cornersS_map (ps : List P3) (a b : Int) : cornersS ps a b = a :: ((xsOf ps).filter fun x => decide (a < x) && decide (x < b)) ++ (if a < b then [b] else []) := by
  unfold cornersS
  rw [List.filter_map]; rfl
theorem Within3.corners {qs ps : List P3} (h : Within3 qs ps) (a b : Int) : cornersS qs a b = cornersS ps a b := by rw [cornersS_map, cornersS_map, h.map_fst]

/-- the piece that has a place -/
theorem piece_at {ps : List P3} {x : Int} (ht : tabOk ps = true) (h1 : firstX ps ≤ x) (h2 : x ≤ lastX ps) : ∃ (i : Nat) (pq : P3 × P3), (pcs ps)[i]? = some pq ∧ pq.1.1 ≤ x ∧ x ≤ pq.2.1 ∧ (∀ j, j < i → ∀ r, (pcs ps)[j]? = some r → r.2.1 < x) := by
  have hl := (tabOk_len ht).1
  rcases Nat.lt_or_ge ps.length 2 with hc | hc
  · obtain ⟨p, rfl⟩ : ∃ p, ps = [p] := List.length_eq_one_iff.1 (by omega)
    exact ⟨0, (p, p), rfl, h1, h2, fun j hj => by omega⟩
  · cases hf : (pcs ps).find? (fun pq => decide (x ≤ pq.2.1)) with
    | none =>
      exfalso
      rw [List.find?_eq_none] at hf
      have e1 : ps[ps.length - 2]? = some ps[ps.length - 2] := List.getElem?_eq_getElem (by omega)
      have e2 : ps[ps.length - 2 + 1]? = some ps[ps.length - 2 + 1] := List.getElem?_eq_getElem (by omega)
      have hm := hf _ (List.mem_of_getElem? (pcs_at hc e1 e2))
      simp only [decide_eq_true_eq] at hm
      have : lastX ps = (ps[ps.length - 2 + 1]'(by omega)).1 := by
        unfold lastX
        rw [List.getLast?_eq_getElem?, show ps.length - 1 = ps.length - 2 + 1 by omega, e2]; rfl
      omega
    | some pq =>
      obtain ⟨hx, i, li, hi, hb⟩ := List.find?_eq_some_iff_getElem.1 hf
      have hx' : x ≤ pq.2.1 := by simpa using hx
      have hi' : (pcs ps)[i]? = some pq := by rw [List.getElem?_eq_getElem li, hi]
      refine ⟨i, pq, hi', ?_, hx', fun j hj r hr => ?_⟩
      · cases i with
        | zero =>
          have hz := hi'
          rw [pcs_two hc, List.getElem?_zip_eq_some] at hz
          have hz0 := hz.1
          have : firstX ps = pq.1.1 := by unfold firstX; rw [List.head?_eq_getElem?, hz0]; rfl
          omega
        | succ k =>
          have lk : k < (pcs ps).length := by omega
          have h0 := hb k (by omega)
          have hr := pcs_before hc (List.getElem?_eq_getElem lk)
          have hz := hi'
          rw [pcs_two hc, List.getElem?_zip_eq_some] at hz
          rw [hz.1] at hr
          injection hr with hr
          simp only [Bool.not_eq_true', decide_eq_false_iff_not] at h0
          rw [hr]; omega
      · have lj := (List.getElem?_eq_some_iff.1 hr).1
        have h0 := hb j hj
        have e := List.getElem?_eq_getElem lj
        rw [hr] at e
        injection e with e
        simp only [Bool.not_eq_true', decide_eq_false_iff_not] at h0
        rw [e]; omega
end

section
open Go.RowKit

/-- A table at a place of one of its pieces, whichever. -/
theorem piece_start {ps : List P3} (ht : tabOk ps = true) {i j : Nat} {pq r : P3 × P3} (hi : (pcs ps)[i]? = some pq) (hj : (pcs ps)[j]? = some r) (h : j < i) : r.2.1 ≤ pq.1.1 := by
  rcases Nat.lt_or_ge ps.length 2 with c | c
  · exfalso
    have hl := (tabOk_len ht).1
    obtain ⟨p, rfl⟩ : ∃ p, ps = [p] := List.length_eq_one_iff.1 (by omega)
    have := (List.getElem?_eq_some_iff.1 hi).1
    simp [pcs] at this
    omega
  · have h1 := pcs_before c hj
    have h2 := hi
    rw [pcs_two c, List.getElem?_zip_eq_some] at h2
    exact rising_le ht h1 h2.1 (by omega)
theorem piece_mem {ps : List P3} (ht : tabOk ps = true) {i : Nat} {pq : P3 × P3} (hi : (pcs ps)[i]? = some pq) : pq.1 ∈ ps ∧ pq.2 ∈ ps ∧ pq.1.1 ≤ pq.2.1 := by
  rcases Nat.lt_or_ge ps.length 2 with c | c
  · have hl := (tabOk_len ht).1
    obtain ⟨p, rfl⟩ : ∃ p, ps = [p] := List.length_eq_one_iff.1 (by omega)
    have : pq = (p, p) := by
      have := List.mem_of_getElem? hi
      simpa [pcs] using this
    subst this
    exact ⟨by simp, by simp, Int.le_refl _⟩
  · have h2 := hi
    rw [pcs_two c, List.getElem?_zip_eq_some] at h2
    have h1 := pcs_before c hi
    exact ⟨List.mem_of_getElem? h2.1, List.mem_of_getElem? h1, rising_le ht h2.1 h1 (by omega)⟩
theorem pAt_start (p q : P3) : pAt p q p.1 = (p.2.1, p.2.2) := by simp [pAt, riseS]
theorem atS_any {ps : List P3} (ht : tabOk ps = true) {i : Nat} {pq : P3 × P3} {x : Int} (hi : (pcs ps)[i]? = some pq) (h1 : pq.1.1 ≤ x) (h2 : x ≤ pq.2.1) : atS ps x = pAt pq.1 pq.2 x := by
  by_cases he : pq.1.1 = x
  · subst he
    rw [atS_point ht (piece_mem ht hi).1, pAt_start]
  · exact atS_piece hi h2 (fun j hj r hr => by have := piece_start ht hi hr hj; omega)

/-- rise goes one way -/
theorem riseS_up {u v D dy : Int} (h : u ≤ v) (hy : 0 ≤ dy) : riseS u D dy ≤ riseS v D dy :=
  Int.ediv_le_ediv (by omega) (Int.mul_le_mul_of_nonneg_right h hy)
theorem riseS_down {u v D dy : Int} (h : u ≤ v) (hy : dy ≤ 0) : riseS v D dy ≤ riseS u D dy :=
  Int.ediv_le_ediv (by omega) (by
    have := Int.mul_le_mul_of_nonneg_right h (show 0 ≤ -dy by omega)
    rw [Int.mul_neg, Int.mul_neg] at this; omega)
/-- the lines of a piece go one way -/
theorem pAt_low_way (p q : P3) : (∀ x y, x ≤ y → (pAt p q x).1 ≤ (pAt p q y).1) ∨ (∀ x y, x ≤ y → (pAt p q y).1 ≤ (pAt p q x).1) := by
  rcases Int.le_total 0 (q.2.1 - p.2.1) with c | c
  · exact .inl fun x y h => by have := riseS_up (D := q.1 - p.1) (show x - p.1 ≤ y - p.1 by omega) c; simp only [pAt]; omega
  · exact .inr fun x y h => by have := riseS_down (D := q.1 - p.1) (show x - p.1 ≤ y - p.1 by omega) c; simp only [pAt]; omega
end

end Go.Proofs.YtmdilbmgopggaaaGreat
