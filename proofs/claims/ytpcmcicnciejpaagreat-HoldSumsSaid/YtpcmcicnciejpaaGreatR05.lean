/- The contract of measures (hold). Its condition: the table lies in memory. -/
import Derived.WalkSmall
import Derived.RegionTactic
import Derived.BigRegion
import Derived.Test.YtpcmcicnciejpaaGreatR01
import Derived.Test.YtpcmcicnciejpaaGreatR02
import Derived.Test.YtpcmcicnciejpaaGreatR03
import Derived.Test.YtpcmcicnciejpaaGreatR04
import Derived.StillTailTactics
import Derived.BigQuiet
import Derived.Deep.RegionHeld3
set_option linter.unusedVariables false
set_option linter.unusedSimpArgs false
set_option linter.constructorNameAsVariable false
namespace Go.Proofs.YtpcmcicnciejpaaGreat

section
open Go.RowKit

abbrev xsOf (ps : List P3) : List Int := ps.map (·.1)
end

section
def Summed4 (s : Int × Int × Int × Int) (N D : Int) : Prop := 1 ≤ D ∧ 1 ≤ s.2.2.2 ∧ 0 ≤ s.2.2.1 ∧ s.2.2.1 < s.2.2.2 ∧ -3000000000000000 ≤ s.1 ∧ s.1 ≤ 3000000000000000 ∧ -3000000000000000 ≤ s.2.1 ∧ s.2.1 ≤ 3000000000000000 ∧ ((s.1 + s.2.1) * s.2.2.2 + s.2.2.1) * D = N * s.2.2.2
theorem Summed4.floor {s : Int × Int × Int × Int} {N D : Int} (h : Summed4 s N D) : s.1 + s.2.1 = N / D ∧ (decide (0 < s.2.2.1) = decide (0 < N % D)) := by
  obtain ⟨hD, hd, hn, hnd, v1, v2, w1, w2, e⟩ := h
  have hz : s.2.2.1 / s.2.2.2 = 0 := Int.ediv_eq_zero_of_lt hn hnd
  have e1 : s.1 + s.2.1 = N / D := by
    rw [← floor_same hd hD e, Int.add_comm ((s.1 + s.2.1) * s.2.2.2), Int.add_mul_ediv_right _ _ (by omega), hz, Int.zero_add]
  refine ⟨e1, ?_⟩
  have e2 := Int.mul_ediv_add_emod N D
  rw [← e1] at e2
  generalize s.1 + s.2.1 = T at *
  have e3 : s.2.2.1 * D = N % D * s.2.2.2 := by
    have : N % D = N - D * T := by omega
    rw [this]; grind
  have hr := Int.emod_nonneg N (show D ≠ 0 by omega)
  by_cases c : 0 < s.2.2.1
  · rw [decide_eq_true c]
    have : 0 < s.2.2.1 * D := Int.mul_pos c (by omega)
    have : N % D ≠ 0 := fun z => by rw [z, Int.zero_mul] at e3; omega
    rw [decide_eq_true (by omega)]
  · rw [decide_eq_false c]
    have z : s.2.2.1 = 0 := by omega
    rw [z, Int.zero_mul] at e3
    have : N % D = 0 := by
      rcases Int.mul_eq_zero.1 e3.symm with k | k <;> omega
    rw [decide_eq_false (by omega)]
end

section
open Go.RowKit

abbrev fv (W N D : Int) : Value := .agg #[.int .i64 W, .int .i64 N, .int .i64 D]

def placeS (ps : List P3) (n : Int) : Int := firstX ps + n % (lastX ps - firstX ps + 1)
theorem first_le_last {ps : List P3} (ht : tabOk ps = true) : firstX ps ≤ lastX ps := by
  have hl := (tabOk_len ht).1
  have e0 : ps[0]? = some (ps[0]'(by omega)) := List.getElem?_eq_getElem (by omega)
  have e1 : ps[ps.length - 1]? = some (ps[ps.length - 1]'(by omega)) := List.getElem?_eq_getElem (by omega)
  have := rising_le ht e0 e1 (by omega)
  have f0 : firstX ps = (ps[0]'(by omega)).1 := by unfold firstX; rw [List.head?_eq_getElem?, e0]; rfl
  have f1 : lastX ps = (ps[ps.length - 1]'(by omega)).1 := by unfold lastX; rw [List.getLast?_eq_getElem?, e1]; rfl
  omega
end

section
open Go.RowKit

def InTab (ps : List P3) (ys : List Int) : Prop := ys.length = ps.length ∧ ∀ (k : Nat) (p : P3) (y : Int), ps[k]? = some p → ys[k]? = some y → p.2.1 ≤ y ∧ y ≤ p.2.2
theorem InTab.tail {p : P3} {ps : List P3} {y : Int} {ys : List Int} (h : InTab (p :: ps) (y :: ys)) : (p.2.1 ≤ y ∧ y ≤ p.2.2) ∧ InTab ps ys :=
  ⟨h.2 0 p y rfl rfl, by have := h.1; simpa using this, fun k q z hq hz => h.2 (k + 1) q z (by simpa using hq) (by simpa using hz)⟩
def Within3 (qs ps : List P3) : Prop := qs.length = ps.length ∧ ∀ (k : Nat) (q p : P3), qs[k]? = some q → ps[k]? = some p → q.1 = p.1 ∧ p.2.1 ≤ q.2.1 ∧ q.2.1 ≤ q.2.2 ∧ q.2.2 ≤ p.2.2
theorem Within3.map_fst {qs ps : List P3} (h : Within3 qs ps) : xsOf qs = xsOf ps := by
  apply List.ext_getElem?
  intro k
  rw [List.getElem?_map, List.getElem?_map]
  rcases Nat.lt_or_ge k qs.length with c | c
  · have e1 : qs[k]? = some (qs[k]'c) := List.getElem?_eq_getElem c
    have e2 : ps[k]? = some (ps[k]'(by have := h.1; omega)) := List.getElem?_eq_getElem _
    rw [e1, e2]
    simp only [Option.map_some]
    rw [(h.2 k _ _ e1 e2).1]
  · rw [List.getElem?_eq_none c, List.getElem?_eq_none (by have := h.1; omega)]
theorem firstX_map (ps : List P3) : firstX ps = ((xsOf ps).head?).getD 0 := by
  unfold firstX; rw [List.head?_map]
theorem lastX_map (ps : List P3) : lastX ps = ((xsOf ps).getLast?).getD 0 := by
  unfold lastX; rw [List.getLast?_map]
theorem Within3.first {qs ps : List P3} (h : Within3 qs ps) : firstX qs = firstX ps := by rw [firstX_map, firstX_map, h.map_fst]
theorem Within3.last {qs ps : List P3} (h : Within3 qs ps) : lastX qs = lastX ps := by rw [lastX_map, lastX_map, h.map_fst]
theorem Within3.place {qs ps : List P3} (h : Within3 qs ps) (z : Int) : placeS qs z = placeS ps z := by unfold placeS; rw [h.first, h.last]
theorem cornersS_map (ps : List P3) (a b : Int) : cornersS ps a b = a :: ((xsOf ps).filter fun x => decide (a < x) && decide (x < b)) ++ (if a < b then [b] else []) := by
  unfold cornersS
  rw [List.filter_map]; rfl
theorem Within3.corners {qs ps : List P3} (h : Within3 qs ps) (a b : Int) : cornersS qs a b = cornersS ps a b := by rw [cornersS_map, cornersS_map, h.map_fst]

theorem piece_at {ps : List P3} {x : Int} (ht : tabOk ps = true) (h1 : firstX ps ≤ x) (h2 : x ≤ lastX ps) : ∃ (i : Nat) (pq : P3 × P3), (pcs ps)[i]? = some pq ∧ pq.1.1 ≤ x ∧ x ≤ pq.2.1 ∧ (∀ j, j < i → ∀ r, (pcs ps)[j]? = some r → r.2.1 < x) := by
  have hl := (tabOk_len ht).1
  rcases Nat.lt_or_ge ps.length 2 with hc | hc
  · obtain ⟨p, rfl⟩ : ∃ p, ps = [p] := List.length_eq_one_iff.1 (by omega)
    exact ⟨0, (p, p), rfl, h1, h2, fun j hj => by omega⟩
  · cases hf : (pcs ps).find? (fun pq => decide (x ≤ pq.2.1)) with
    | none =>
      exfalso
      rw [List.find?_eq_none] at hf
      have e1 : ps[ps.length - 2]? = some ps[ps.length - 2] := List.getElem?_eq_getElem (by omega)
      have e2 : ps[ps.length - 2 + 1]? = some ps[ps.length - 2 + 1] := List.getElem?_eq_getElem (by omega)
      have hm := hf _ (List.mem_of_getElem? (pcs_at hc e1 e2))
      simp only [decide_eq_true_eq] at hm
      have : lastX ps = (ps[ps.length - 2 + 1]'(by omega)).1 := by
        unfold lastX
        rw [List.getLast?_eq_getElem?, show ps.length - 1 = ps.length - 2 + 1 by omega, e2]; rfl
      omega
    | some pq =>
      obtain ⟨hx, i, li, hi, hb⟩ := List.find?_eq_some_iff_getElem.1 hf
      have hx' : x ≤ pq.2.1 := by simpa using hx
      have hi' : (pcs ps)[i]? = some pq := by rw [List.getElem?_eq_getElem li, hi]
      refine ⟨i, pq, hi', ?_, hx', fun j hj r hr => ?_⟩
      · cases i with
        | zero =>
          have hz := hi'
          rw [pcs_two hc, List.getElem?_zip_eq_some] at hz
          have hz0 := hz.1
          have : firstX ps = pq.1.1 := by unfold firstX; rw [List.head?_eq_getElem?, hz0]; rfl
          omega
        | succ k =>
          have lk : k < (pcs ps).length := by omega
          have h0 := hb k (by omega)
          have hr := pcs_before hc (List.getElem?_eq_getElem lk)
          have hz := hi'
          rw [pcs_two hc, List.getElem?_zip_eq_some] at hz
          rw [hz.1] at hr
          injection hr with hr
          simp only [Bool.not_eq_true', decide_eq_false_iff_not] at h0
          rw [hr]; omega
      · have lj := (List.getElem?_eq_some_iff.1 hr).1
        have h0 := hb j hj
        have e := List.getElem?_eq_getElem lj
        rw [hr] at e
        injection e with e
        simp only [Bool.not_eq_true', decide_eq_false_iff_not] at h0
        rw [e]; omega
end

section
open Go.RowKit

theorem piece_start {ps : List P3} (ht : tabOk ps = true) {i j : Nat} {pq r : P3 × P3} (hi : (pcs ps)[i]? = some pq) (hj : (pcs ps)[j]? = some r) (h : j < i) : r.2.1 ≤ pq.1.1 := by
  rcases Nat.lt_or_ge ps.length 2 with c | c
  · exfalso
    have hl := (tabOk_len ht).1
    obtain ⟨p, rfl⟩ : ∃ p, ps = [p] := List.length_eq_one_iff.1 (by omega)
    have := (List.getElem?_eq_some_iff.1 hi).1
    simp [pcs] at this
    omega
  · have h1 := pcs_before c hj
    have h2 := hi
    rw [pcs_two c, List.getElem?_zip_eq_some] at h2
    exact rising_le ht h1 h2.1 (by omega)
theorem piece_mem {ps : List P3} (ht : tabOk ps = true) {i : Nat} {pq : P3 × P3} (hi : (pcs ps)[i]? = some pq) : pq.1 ∈ ps ∧ pq.2 ∈ ps ∧ pq.1.1 ≤ pq.2.1 := by
  rcases Nat.lt_or_ge ps.length 2 with c | c
  · have hl := (tabOk_len ht).1
    obtain ⟨p, rfl⟩ : ∃ p, ps = [p] := List.length_eq_one_iff.1 (by omega)
    have : pq = (p, p) := by
      have := List.mem_of_getElem? hi
      simpa [pcs] using this
    subst this
    exact ⟨by simp, by simp, Int.le_refl _⟩
  · have h2 := hi
    rw [pcs_two c, List.getElem?_zip_eq_some] at h2
    have h1 := pcs_before c hi
    exact ⟨List.mem_of_getElem? h2.1, List.mem_of_getElem? h1, rising_le ht h2.1 h1 (by omega)⟩
theorem pAt_start (p q : P3) : pAt p q p.1 = (p.2.1, p.2.2) := by simp [pAt, riseS]
theorem atS_any {ps : List P3} (ht : tabOk ps = true) {i : Nat} {pq : P3 × P3} {x : Int} (hi : (pcs ps)[i]? = some pq) (h1 : pq.1.1 ≤ x) (h2 : x ≤ pq.2.1) : atS ps x = pAt pq.1 pq.2 x := by
  by_cases he : pq.1.1 = x
  · subst he
    rw [atS_point ht (piece_mem ht hi).1, pAt_start]
  · exact atS_piece hi h2 (fun j hj r hr => by have := piece_start ht hi hr hj; omega)

theorem riseS_up {u v D dy : Int} (h : u ≤ v) (hy : 0 ≤ dy) : riseS u D dy ≤ riseS v D dy :=
  Int.ediv_le_ediv (by omega) (Int.mul_le_mul_of_nonneg_right h hy)
theorem riseS_down {u v D dy : Int} (h : u ≤ v) (hy : dy ≤ 0) : riseS v D dy ≤ riseS u D dy :=
  Int.ediv_le_ediv (by omega) (by
    have := Int.mul_le_mul_of_nonneg_right h (show 0 ≤ -dy by omega)
    rw [Int.mul_neg, Int.mul_neg] at this; omega)
theorem pAt_low_way (p q : P3) : (∀ x y, x ≤ y → (pAt p q x).1 ≤ (pAt p q y).1) ∨ (∀ x y, x ≤ y → (pAt p q y).1 ≤ (pAt p q x).1) := by
  rcases Int.le_total 0 (q.2.1 - p.2.1) with c | c
  · exact .inl fun x y h => by have := riseS_up (D := q.1 - p.1) (show x - p.1 ≤ y - p.1 by omega) c; simp only [pAt]; omega
  · exact .inr fun x y h => by have := riseS_down (D := q.1 - p.1) (show x - p.1 ≤ y - p.1 by omega) c; simp only [pAt]; omega
end

section
open Go.RowKit Go.Shelf

def RunsP (w : World) (A : Option Addr) (L : List (Int × Int)) : Prop := L = [] ∨ ∃ b o, A = some ⟨b, o, none⟩ ∧ b < w.heap.size ∧ RunsMem w b o L
theorem RunsP.below {w w' : World} {A : Option Addr} {L : List (Int × Int)} (h : RunsP w A L) (hB : Below w.heap.size w w') : RunsP w' A L := by
  rcases h with h | ⟨b, o, h1, h2, h3⟩
  · exact .inl h
  · exact .inr ⟨b, o, h1, Nat.lt_of_lt_of_le h2 hB.size, h3.below hB h2⟩
theorem runCells_at : ∀ (L : List (Int × Int)) (k : Nat) (r : Int × Int), L[k]? = some r → (runCells L)[k * 2]? = some (.int .i64 r.1) ∧ (runCells L)[k * 2 + 1]? = some (.int .i64 r.2)
  | [], k, r, h => by simp at h
  | z :: L, 0, r, h => by simp at h; subst h; simp [runCells]
  | z :: L, k + 1, r, h => by
    have := runCells_at L k r (by simpa using h)
    have e : runCells (z :: L) = [Value.int .i64 z.1, .int .i64 z.2] ++ runCells L := by simp [runCells]
    rw [e, List.getElem?_append_right (by simp; omega), List.getElem?_append_right (by simp; omega)]
    rw [show (k + 1) * 2 - [Value.int .i64 z.1, .int .i64 z.2].length = k * 2 by simp; omega, show (k + 1) * 2 + 1 - [Value.int .i64 z.1, .int .i64 z.2].length = k * 2 + 1 by simp; omega]
    exact this
theorem OwnRuns.runsP {base : Nat} {w : World} {v : Value} {L : List (Int × Int)} (ho : OwnRuns base w v L) : ∃ A c, v = .slice A L.length c ∧ RunsP w A L := by
  have ho' : w.ownsRow base 35 2 v L.length (runCells L) := ho
  rcases Nat.lt_or_ge 0 L.length with hl | hl
  · obtain ⟨g, cap, rfl, _, h2⟩ := ho'.form hl
    refine ⟨_, _, rfl, .inr ⟨g, 0, rfl, h2, fun k p hp => ?_⟩⟩
    have hk := (List.getElem?_eq_some_iff.1 hp).1
    obtain ⟨a, b⟩ := runCells_at L k p hp
    have c0 := (ho'.cellAt (k * 2) (by omega)).trans a
    have c1 := (ho'.cellAt (k * 2 + 1) (by omega)).trans b
    rw [Nat.zero_add]
    exact ⟨c0, c1⟩
  · obtain rfl : L = [] := List.eq_nil_of_length_eq_zero (by omega)
    rcases ho'.2 with ⟨h, _⟩ | ⟨g, cap, _, h, _⟩
    · exact ⟨_, _, h, .inl rfl⟩
    · exact ⟨_, _, h, .inl rfl⟩
def GivesRow2 (w : World) (L : List (Int × Int)) (e : Ending) (w' : World) : Prop := ∃ A c, e = .returned (.tuple #[.slice A L.length c, .int .i64 0]) ∧ RunsP w' A L ∧ Below w.heap.size w w'
theorem givesRow2_of {w w' : World} {L : List (Int × Int)} {e : Ending} (h : GivesRunsOk w L e w') : GivesRow2 w L e w' := by
  obtain ⟨v, rfl, ho, hb⟩ := h
  obtain ⟨A, c, rfl, hp⟩ := ho.runsP
  exact ⟨A, c, rfl, hp, hb⟩
end

section
open Go.RowKit Go.Shelf

def overE (ps : List P3) (a b : Int) : Int := if tabOk ps = true then (if vR a b = true then placesS ps a b else 10) else 11
def overS (ps : List P3) (a b : Int) : Int × Int × Int := if overE ps a b = 0 then ((overGood ps a b).1, (overGood ps a b).2.1, 0) else (0, 0, overE ps a b)
theorem placesS_cases (ps : List P3) (a b : Int) (ht : tabOk ps = true) : placesS ps a b = 0 ∨ placesS ps a b = 4 := by
  unfold placesS; rw [if_pos ht]; split
  · exact .inl rfl
  · exact .inr rfl

set_option maxRecDepth 100000 in
set_option maxHeartbeats 4000000 in
theorem over_bad (A : Option Addr) (n c : Nat) (ps : List P3) (x y : Int) (w : World) (hn : n = ps.length) (hm : n ≤ maxLen) (hp : Pts w A ps) (h0 : overE ps x y ≠ 0) :
  Calls Tryz.prog 74 #[tv A n c, rv x y] w fun e w' => e = .returned (.tuple #[rv 0 0, .int .i64 (overE ps x y)]) ∧ Below w.heap.size w w' := by
 have hE : Below w.heap.size w (((w.alloc (.cells #[.slice A n c] 38)).alloc (.cells #[.int .i64 x, .int .i64 y] 35)).alloc (.cells #[.int .i64 0, .int .i64 0] 35)) := below_a3 (Below.refl _ _)
 have hK : Boxes (((w.alloc (.cells #[.slice A n c] 38)).alloc (.cells #[.int .i64 x, .int .i64 y] 35)).alloc (.cells #[.int .i64 0, .int .i64 0] 35)) [(w.heap.size + 1 + 1, 35, #[.int .i64 0, .int .i64 0]), (w.heap.size + 1, 35, #[.int .i64 x, .int .i64 y]), (w.heap.size, 38, #[.slice A n c])] := by
  have h1 : Boxes (w.alloc (.cells #[.slice A n c] 38)) [(w.heap.size, 38, #[.slice A n c])] := fun p hp => by
   have := List.mem_singleton.1 hp; subst this; exact Blk.new w _ _
  have h2 := (h1.new 35 #[.int .i64 x, .int .i64 y]).new 35 #[.int .i64 0, .int .i64 0]
  simp only [World.size_alloc] at h2
  exact h2
 have HP := Lib.hid (hp.below hE); have HE := Lib.hid hE; have HK := Lib.hid hK; have HN := Lib.hid hn
 clear hE hK hp hn
 by_cases ht : tabOk ps = true
 ·have CT : Hid (∀ W, Pts W A ps → Calls Tryz.prog 87 #[tv A n c] W fun e w' => e = .returned (.int .i64 0) ∧ Below W.heap.size W w') := Lib.hid fun W hW => checkTable_to A n c ps true 0 W HN.out hm hW ht rfl
  by_cases hr : vR x y = true
  ·have he : overE ps x y = 4 := by
    unfold overE at h0 ⊢
    rw [if_pos ht, if_pos hr] at h0 ⊢
    exact (placesS_cases ps x y ht).resolve_left h0
   have hpl : placesS ps x y = 4 := by unfold overE at he; rw [if_pos ht, if_pos hr] at he; exact he
   rw [he]
   have HPL := Lib.hid hpl; have HR := Lib.hid hr
   clear ht hr h0 he hpl
   go_enter Tryz.func74, Tryz.ntmps74
   go_wp2_with fail
   obtain ⟨W0, hW0⟩ : ∃ W0, ((w.alloc (.cells #[.slice A n c] 38)).alloc (.cells #[.int .i64 x, .int .i64 y] 35)).alloc (.cells #[.int .i64 0, .int .i64 0] 35) = W0 := ⟨_, rfl⟩
   rw [hW0] at HE HK HP ⊢
   clear hW0
   refine (CT.out _ HP.out).mono ?_
   rintro e w1 ⟨rfl, hb1⟩
   have HK1 := Lib.hid (HK.out.on hb1); have HE1 := Lib.hid (below_then HE.out hb1); have HP1 := Lib.hid (HP.out.below hb1)
   clear hb1 HK HE HP
   have q0 := (HK1.out _ (.tail _ (.head _))).cell 0
   have q1 := (HK1.out _ (.tail _ (.head _))).cell 1
   simp at q0 q1
   go_wp2_with fail
   refine (checkRange_ok x y _ HR.out).mono ?_
   rintro e w2 ⟨rfl, hb1⟩
   have HK2 := Lib.hid (HK1.out.on hb1); have HE2 := Lib.hid (below_then HE1.out hb1); have HP2 := Lib.hid (HP1.out.below hb1)
   clear hb1 HK1 HE1 HP1 q0 q1
   have q0 := (HK2.out _ (.tail _ (.head _))).cell 0
   have q1 := (HK2.out _ (.tail _ (.head _))).cell 1
   have q2 := (HK2.out _ (.tail _ (.tail _ (.head _)))).cell 0
   simp at q0 q1 q2
   go_wp2_with fail
   refine (checkPlaces_to _ n c ps x y 4 _ HN.out hm HP2.out HPL.out).mono ?_
   rintro e w3 ⟨rfl, hb1⟩
   have hO := (HK2.out.on hb1) _ (.head _)
   have HE3 := Lib.hid (below_then HE2.out hb1)
   have r0 := hO.cell 0
   have r1 := hO.cell 1
   have f0 := hO.frozen 0
   have f1 := hO.frozen 1
   have lT := hO.lt
   simp at r0 r1
   clear hb1 q0 q1 q2 hO
   go_wp2
   refine bodyPost_ret (v := .tuple #[rv 0 0, .int .i64 4]) (by simp [results, Tryz.results74, go_sem, r0, r1, lT]) rfl ⟨rfl, ?_⟩
   exact (HE3.out.setCell (p := ⟨w.heap.size + 1 + 1, 0, none⟩) (by simp; omega) _).setCell (p := ⟨w.heap.size + 1 + 1, 1, none⟩) (by simp; omega) _
  ·have hr' : vR x y = false := by simpa using hr
   have he : overE ps x y = 10 := by unfold overE; rw [if_pos ht, if_neg hr]
   rw [he]
   have HR := Lib.hid hr'
   clear ht hr hr' h0 he
   go_enter Tryz.func74, Tryz.ntmps74
   go_wp2_with fail
   obtain ⟨W0, hW0⟩ : ∃ W0, ((w.alloc (.cells #[.slice A n c] 38)).alloc (.cells #[.int .i64 x, .int .i64 y] 35)).alloc (.cells #[.int .i64 0, .int .i64 0] 35) = W0 := ⟨_, rfl⟩
   rw [hW0] at HE HK HP ⊢
   clear hW0
   refine (CT.out _ HP.out).mono ?_
   rintro e w1 ⟨rfl, hb1⟩
   have HK1 := Lib.hid (HK.out.on hb1); have HE1 := Lib.hid (below_then HE.out hb1)
   clear hb1 HK HE HP
   have q0 := (HK1.out _ (.tail _ (.head _))).cell 0
   have q1 := (HK1.out _ (.tail _ (.head _))).cell 1
   simp at q0 q1
   go_wp2_with fail
   refine (checkRange_bad x y _ HR.out).mono ?_
   rintro e w3 ⟨rfl, hb1⟩
   have hO := (HK1.out.on hb1) _ (.head _)
   have HE3 := Lib.hid (below_then HE1.out hb1)
   have r0 := hO.cell 0
   have r1 := hO.cell 1
   have f0 := hO.frozen 0
   have f1 := hO.frozen 1
   have lT := hO.lt
   simp at r0 r1
   clear hb1 q0 q1 hO
   go_wp2
   refine bodyPost_ret (v := .tuple #[rv 0 0, .int .i64 10]) (by simp [results, Tryz.results74, go_sem, r0, r1, lT]) rfl ⟨rfl, ?_⟩
   exact (HE3.out.setCell (p := ⟨w.heap.size + 1 + 1, 0, none⟩) (by simp; omega) _).setCell (p := ⟨w.heap.size + 1 + 1, 1, none⟩) (by simp; omega) _
 ·have ht' : tabOk ps = false := by simpa using ht
  have CT : Hid (∀ W, Pts W A ps → Calls Tryz.prog 87 #[tv A n c] W fun e w' => e = .returned (.int .i64 11) ∧ Below W.heap.size W w') := Lib.hid fun W hW => checkTable_to A n c ps false 11 W HN.out hm hW ht' rfl
  have he : overE ps x y = 11 := by unfold overE; rw [if_neg ht]
  rw [he]
  clear ht ht' h0 he
  go_enter Tryz.func74, Tryz.ntmps74
  go_wp2_with fail
  obtain ⟨W0, hW0⟩ : ∃ W0, ((w.alloc (.cells #[.slice A n c] 38)).alloc (.cells #[.int .i64 x, .int .i64 y] 35)).alloc (.cells #[.int .i64 0, .int .i64 0] 35) = W0 := ⟨_, rfl⟩
  rw [hW0] at HE HK HP ⊢
  clear hW0
  refine (CT.out _ HP.out).mono ?_
  rintro e w3 ⟨rfl, hb1⟩
  have hO := (HK.out.on hb1) _ (.head _)
  have HE3 := Lib.hid (below_then HE.out hb1)
  have r0 := hO.cell 0
  have r1 := hO.cell 1
  have f0 := hO.frozen 0
  have f1 := hO.frozen 1
  have lT := hO.lt
  simp at r0 r1
  clear hb1 hO HK HE HP
  go_wp2
  refine bodyPost_ret (v := .tuple #[rv 0 0, .int .i64 11]) (by simp [results, Tryz.results74, go_sem, r0, r1, lT]) rfl ⟨rfl, ?_⟩
  exact (HE3.out.setCell (p := ⟨w.heap.size + 1 + 1, 0, none⟩) (by simp; omega) _).setCell (p := ⟨w.heap.size + 1 + 1, 1, none⟩) (by simp; omega) _

theorem over_all (A : Option Addr) (n c : Nat) (ps : List P3) (x y : Int) (w : World) (hn : n = ps.length) (hm : n ≤ maxLen) (hp : Pts w A ps) :
    Calls Tryz.prog 74 #[tv A n c, rv x y] w fun e w' => e = .returned (rt (overS ps x y)) ∧ Below w.heap.size w w' := by
  by_cases h0 : overE ps x y = 0
  · have ht : tabOk ps = true := by
      cases h : tabOk ps
      · unfold overE at h0; rw [h] at h0; simp at h0
      · rfl
    have hr : vR x y = true := by
      cases h : vR x y
      · unfold overE at h0; rw [if_pos ht, h] at h0; simp at h0
      · rfl
    have hpl : placesS ps x y = 0 := by unfold overE at h0; rw [if_pos ht, if_pos hr] at h0; exact h0
    have h1 := (tabOk_len ht).1
    obtain ⟨b, o, rfl, hb, hc⟩ := hp.block h1
    unfold overS
    rw [if_pos h0]
    exact over_good b o n c ps x y w hn (by omega) hb ht hr hpl hc
  · unfold overS
    rw [if_neg h0]
    exact over_bad A n c ps x y w hn hm hp h0

def RunsE (w : World) (L : List (Int × Int)) (E : Int) (e : Ending) (w' : World) : Prop := ∃ A c, e = .returned (.tuple #[.slice A L.length c, .int .i64 E]) ∧ RunsP w' A L ∧ Below w.heap.size w w'
theorem runsE_of {w w' : World} {L : List (Int × Int)} {e : Ending} (h : GivesRunsOk w L e w') : RunsE w L 0 e w' := givesRow2_of h
theorem runsE_nil {w w' : World} {E : Int} {e : Ending} (h : e = .returned (.tuple #[.slice none 0 0, .int .i64 E]) ∧ Below w.heap.size w w') : RunsE w [] E e w' := ⟨none, 0, h.1, .inl rfl, h.2⟩
noncomputable def prs (ps : List P3) : List Pr := if h : tabOk ps = true then (rise_list h).choose else []
theorem prs_pcs {ps : List P3} (h : tabOk ps = true) : (prs ps).map (·.1) = pcs ps := by
  unfold prs; rw [dif_pos h]; exact (rise_list h).choose_spec
def whereE (ps : List P3) (a b : Int) : Int := if tabOk ps = true then (if vR a b = true then 0 else 10) else 11
set_option maxRecDepth 100000 in
set_option maxHeartbeats 2000000 in
theorem where_bad (A : Option Addr) (n c : Nat) (ps : List P3) (x y : Int) (w : World) (hn : n = ps.length) (hm : n ≤ maxLen) (hp : Pts w A ps) (h0 : whereE ps x y ≠ 0) :
  Calls Tryz.prog 59 #[tv A n c, rv x y] w fun e w' => e = .returned (.tuple #[.slice none 0 0, .int .i64 (whereE ps x y)]) ∧ Below w.heap.size w w' := by
 have hE : Below w.heap.size w ((w.alloc (.cells #[.slice A n c] 38)).alloc (.cells #[.int .i64 x, .int .i64 y] 35)) := below_a2 (Below.refl _ _)
 have hK := (Blk.new (w.alloc (.cells #[.slice A n c] 38)) 35 #[.int .i64 x, .int .i64 y])
 simp only [World.size_alloc] at hK
 have HP := Lib.hid (hp.below hE); have HE := Lib.hid hE; have HK := Lib.hid hK; have HN := Lib.hid hn
 clear hE hK hp hn
 by_cases ht : tabOk ps = true
 ·have CT : Hid (∀ W, Pts W A ps → Calls Tryz.prog 87 #[tv A n c] W fun e w' => e = .returned (.int .i64 0) ∧ Below W.heap.size W w') := Lib.hid fun W hW => checkTable_to A n c ps true 0 W HN.out hm hW ht rfl
  have hr : ¬ vR x y = true := fun hr => h0 (by unfold whereE; rw [if_pos ht, if_pos hr])
  have hr' : vR x y = false := by simpa using hr
  have he : whereE ps x y = 10 := by unfold whereE; rw [if_pos ht, if_neg hr]
  rw [he]
  have HR := Lib.hid hr'
  clear ht hr hr' h0 he
  go_enter Tryz.func59, Tryz.ntmps59
  go_wp2_with fail
  obtain ⟨W0, hW0⟩ : ∃ W0, (w.alloc (.cells #[.slice A n c] 38)).alloc (.cells #[.int .i64 x, .int .i64 y] 35) = W0 := ⟨_, rfl⟩
  rw [hW0] at HE HK HP ⊢
  clear hW0
  refine (CT.out _ HP.out).mono ?_
  rintro e w1 ⟨rfl, hb1⟩
  have HK1 := Lib.hid (blkOn HK.out hb1); have HE1 := Lib.hid (below_then HE.out hb1)
  clear hb1 HK HE HP
  have q0 := HK1.out.cell 0
  have q1 := HK1.out.cell 1
  simp at q0 q1
  go_wp2_with fail
  refine (checkRange_bad x y _ HR.out).mono ?_
  rintro e w3 ⟨rfl, hb1⟩
  have HE3 := Lib.hid (below_then HE1.out hb1)
  clear hb1 q0 q1
  go_wp2
  go_ret2
  exact ⟨rfl, HE3.out⟩
 ·have ht' : tabOk ps = false := by simpa using ht
  have CT : Hid (∀ W, Pts W A ps → Calls Tryz.prog 87 #[tv A n c] W fun e w' => e = .returned (.int .i64 11) ∧ Below W.heap.size W w') := Lib.hid fun W hW => checkTable_to A n c ps false 11 W HN.out hm hW ht' rfl
  have he : whereE ps x y = 11 := by unfold whereE; rw [if_neg ht]
  rw [he]
  clear ht ht' h0 he
  go_enter Tryz.func59, Tryz.ntmps59
  go_wp2_with fail
  refine (CT.out _ HP.out).mono ?_
  rintro e w3 ⟨rfl, hb1⟩
  have HE3 := Lib.hid (below_then HE.out hb1)
  clear hb1 HK HE HP
  go_wp2
  go_ret2
  exact ⟨rfl, HE3.out⟩
theorem where_all (A : Option Addr) (n c : Nat) (ps : List P3) (x y : Int) (w : World) (hn : n = ps.length) (hm : n ≤ maxLen) (hp : Pts w A ps) :
    Calls Tryz.prog 59 #[tv A n c, rv x y] w (RunsE w (if whereE ps x y = 0 then runsF (whereS x y) (prs ps) else []) (whereE ps x y)) := by
  by_cases h0 : whereE ps x y = 0
  · have ht : tabOk ps = true := by
      cases h : tabOk ps
      · unfold whereE at h0; rw [h] at h0; simp at h0
      · rfl
    have hr : vR x y = true := by
      cases h : vR x y
      · unfold whereE at h0; rw [if_pos ht, h] at h0; simp at h0
      · rfl
    have h1 := (tabOk_len ht).1
    obtain ⟨b, o, rfl, hb, hc⟩ := hp.block h1
    rw [if_pos h0, h0]
    exact (where_good b o n c ps (prs ps) x y w hn (by omega) hb ht hr (prs_pcs ht) hc).mono fun e w' h => runsE_of h
  · rw [if_neg h0]
    exact (where_bad A n c ps x y w hn hm hp h0).mono fun e w' h => runsE_nil h
end

section
open Go.RowKit

def noneNeg (ps : List P3) : Bool := ps.all fun p => decide (0 ≤ p.2.1)
theorem noneNeg_at {ps : List P3} {k : Nat} {p : P3} (h : ps[k]? = some p) : noneNeg (ps.drop k) = (decide (0 ≤ p.2.1) && noneNeg (ps.drop (k + 1))) := by
  have hk : k < ps.length := (List.getElem?_eq_some_iff.1 h).1
  have e : ps.drop k = p :: ps.drop (k + 1) := by
    rw [List.drop_eq_getElem_cons hk]
    rw [List.getElem?_eq_getElem hk] at h
    injection h with h
    rw [h]
  rw [e]; rfl
set_option maxRecDepth 100000 in
set_option maxHeartbeats 4000000 in
theorem measures_any (A : Option Addr) (n c : Nat) (ps : List P3) (w : World) (hp : TabIn w A n ps) :
  Calls Tryz.prog 113 #[tv A n c] w fun e w' => e = .returned (.bool (measuresS ps)) ∧ Below w.heap.size w w' := by
 obtain ⟨hn, hm, hp⟩ := hp
 have hE : Below w.heap.size w (w.alloc (.cells #[.slice A n c] 38)) := below_alloc1 w _
 have C : Hid (∀ W t, Below w.heap.size w W → (if tabOk ps = true then (0 : Int) else 11) = t → Calls Tryz.prog 87 #[tv A n c] W fun e w' => e = .returned (.int .i64 t) ∧ Below W.heap.size W w') := Lib.hid fun W t hW h => int_to (checkTable_any A n c ps W hn hm (hp.below hW)) h
 have HE := Lib.hid hE; have HK := Lib.hid (boxes1' w 38 #[.slice A n c])
 unfold maxLen at hm
 cases ht : tabOk ps
 ·have hr : measuresS ps = false := by unfold measuresS; rw [ht]; rfl
  rw [hr]
  have HT := Lib.hid (show (if tabOk ps = true then (0 : Int) else 11) = 11 by rw [ht]; rfl)
  clear hE hp hn ht hr
  go_enter Tryz.func113, Tryz.ntmps113
  go_wp2_with fail
  refine (C.out _ 11 HE.out HT.out).mono ?_
  rintro e w1 ⟨rfl, hb⟩
  have HE1 := Lib.hid (below_then HE.out hb)
  clear hb
  go_wp2
  go_ret
  exact ⟨rfl, HE1.out⟩
 ·have HT := Lib.hid (show (if tabOk ps = true then (0 : Int) else 11) = 0 by rw [ht]; rfl)
  have h40 := tabOk_len ht
  by_cases h2 : n < 2
  ·have hr : measuresS ps = false := by unfold measuresS; rw [ht, decide_eq_false (by omega)]; rfl
   rw [hr]
   clear hE hp hn ht hr h40
   go_enter Tryz.func113, Tryz.ntmps113
   go_wp2_with fail
   refine (C.out _ 0 HE.out HT.out).mono ?_
   rintro e w1 ⟨rfl, hb⟩
   have HE1 := Lib.hid (below_then HE.out hb)
   have q0 := (HK.out.on hb _ (.head _)).cell 0
   simp at q0
   clear hb
   go_wp2
   go_ret
   exact ⟨rfl, HE1.out⟩
  ·obtain ⟨b, o, rfl, hb, hc⟩ := hp.block h40.1
   have hr : measuresS ps = noneNeg ps := by unfold measuresS noneNeg; rw [ht, decide_eq_true (by omega)]; rfl
   rw [hr]
   generalize hrr : noneNeg ps = r
   have HR := Lib.hid hrr
   have HC := Lib.hid hc; have HN := Lib.hid hn
   clear hE hp hn ht hr hrr hc
   go_enter Tryz.func113, Tryz.ntmps113
   go_wp2_with fail
   refine (C.out _ 0 HE.out HT.out).mono ?_
   rintro e w1 ⟨rfl, hb1⟩
   have HE1 := Lib.hid (below_then HE.out hb1)
   have q0 := (HK.out.on hb1 _ (.head _)).cell 0
   simp at q0
   clear hb1
   go_wp2_with fail
   clear q0
   go_loopw [17] (fun i wr => ∃ k : Nat, k ≤ n ∧ i = .int .i64 k ∧ Hid (noneNeg (ps.drop k) = r) ∧ Below w1.heap.size w1 wr) (fun i _ => n - (intOf i).toNat)
   case atStart => exact ⟨0, by omega, rfl, HR, Below.refl _ _⟩
   case round =>
    obtain ⟨k, hk, rfl, HP, hB⟩ := hrel
    by_cases hlt : k < n
    ·obtain ⟨p, hp⟩ : ∃ p, ps[k]? = some p := ⟨_, List.getElem?_eq_getElem (show k < ps.length by rw [← HN.out]; exact hlt)⟩
     have hEk := below_then HE1.out hB
     obtain ⟨c0, c1, c2⟩ := HC.out k p hp
     rw [← hEk.cell (p := ⟨b, o + k * 3, none⟩) hb] at c0
     rw [← hEk.cell (p := ⟨b, o + k * 3 + 1, none⟩) hb] at c1
     rw [← hEk.cell (p := ⟨b, o + k * 3 + 2, none⟩) hb] at c2
     have HS := Lib.hid (noneNeg_at hp)
     obtain ⟨x, lo, hi⟩ := p
     dsimp only at c0 c1 c2
     have HB := Lib.hid (hB.alloc hB.size (.cells #[.int .i64 x, .int .i64 lo, .int .i64 hi] 66))
     clear hp hB hEk
     by_cases h0 : lo < 0
     ·have hf : r = false := by rw [← HP.out, HS.out, decide_eq_false (by dsimp only; omega)]; rfl
      subst hf
      clear HP HS HR
      go_wp2
      go_ret
      exact ⟨rfl, below_then HE1.out HB.out⟩
     ·have HP2 : Hid (noneNeg (ps.drop (k + 1)) = r) := Lib.hid (by rw [← HP.out, HS.out, decide_eq_true (by dsimp only; omega)]; rfl)
      clear HP HS
      go_wp2
      go_roundw
      case rel => exact ⟨k + 1, by omega, by go_num, HP2, HB.out⟩
      case measure => simp [intOf]; omega
    ·have hf : r = true := by rw [← HP.out, List.drop_of_length_le (by have := HN.out; omega)]; rfl
     subst hf
     have HB := Lib.hid hB
     clear HP HR hB
     go_wp2
     go_ret
     exact ⟨rfl, below_then HE1.out HB.out⟩
end

end Go.Proofs.YtpcmcicnciejpaaGreat
